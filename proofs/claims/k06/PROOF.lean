import PyProof.Rows.All
import Wide.All
import OpenK.AllK
import Wide.FinOn
import Lean
import PyProof.EqAt
import PyProof.EqKinds
import PyProof.TupleCall
import PyProof.NeKinds
import PyProof.ZipIter
import KE.KIntText
import PyProof.StrLawsIn
import PyProof.DictItems
import PyProof.NsDelKeeps
import PySem.Challenge.RW_ledtowish_k06_whole_ways_together
set_option Elab.async false
set_option linter.all false
set_option maxRecDepth 100000
/-! THE HAND LAYER, for ints, bools, texts, own classes, LISTS and tuples (index, slices, in, append, pop ..), calls, loops. Paste it whole ahead of your own text; what your proof does not reach may be deleted. -/
namespace L2
open PySem PySem.Spec PyProof.Rows

/-- a key: an int or a str -/
abbrev Key := Sum Int Str
def keyIs : Key → Value → Bool
  | .inl k, v => Value.isInt k v
  | .inr x, v => Value.isStrOf x v
def keyH (w : World) : Key → Int
  | .inl k => hashInt k
  | .inr x => hashStr w x
theorem keyIs_shape : ∀ {k : Key} {v : Value}, keyIs k v = true → (∃ i t, k = Sum.inl i ∧ v = Value.int i t) ∨ (∃ x t, k = Sum.inr x ∧ v = Value.str x t)
  | .inl i, v, h => by
    obtain ⟨t, e⟩ := Value.isInt_shape (k := i) (v := v) h
    exact .inl ⟨i, t, rfl, e⟩
  | .inr x, v, h => by
    obtain ⟨t, e⟩ := Value.isStrOf_shape (x := x) (v := v) h
    exact .inr ⟨x, t, rfl, e⟩
theorem key_ll (a b : Int) : decide ((Sum.inl a : Key) = Sum.inl b) = (a == b) := by
  by_cases e : a = b
  · subst e; simp
  · have h : ¬ (Sum.inl a : Key) = Sum.inl b := fun q => e (Sum.inl.inj q)
    rw [decide_eq_false h]
    exact (beq_eq_false_iff_ne.mpr e).symm
theorem key_rr (a b : Str) : decide ((Sum.inr a : Key) = Sum.inr b) = decide (a = b) := by
  by_cases e : a = b
  · subst e; simp
  · have h : ¬ (Sum.inr a : Key) = Sum.inr b := fun q => e (Sum.inr.inj q)
    rw [decide_eq_false h, decide_eq_false e]
theorem key_lr (a : Int) (b : Str) : decide ((Sum.inl a : Key) = Sum.inr b) = false := decide_eq_false (fun q => nomatch q)
theorem key_rl (a : Str) (b : Int) : decide ((Sum.inr a : Key) = Sum.inl b) = false := decide_eq_false (fun q => nomatch q)

def mixKind (prog : Program) (w : World) : PySem.KeyKind prog w Key where
  is := keyIs
  hash := keyH w
  inj := fun v a b ha hb => by
    rcases keyIs_shape ha with ⟨i, t, rfl, rfl⟩ | ⟨x, t, rfl, rfl⟩
    · rcases keyIs_shape hb with ⟨j, u, rfl, e⟩ | ⟨y, u, rfl, e⟩
      · injection e with e1 _; rw [e1]
      · exact nomatch e
    · rcases keyIs_shape hb with ⟨j, u, rfl, e⟩ | ⟨y, u, rfl, e⟩
      · exact nomatch e
      · injection e with e1 _; rw [e1]
  byValue := fun k v h => by
    rcases keyIs_shape h with ⟨i, t, rfl, rfl⟩ | ⟨x, t, rfl, rfl⟩ <;> rfl
  pyHash := fun hv h => by
    rcases keyIs_shape hv with ⟨i, t, rfl, rfl⟩ | ⟨x, t, rfl, rfl⟩
    · exact wpAny_pyHash_int h
    · exact wpAny_pyHash_str h
  eqBool := fun hu hv h => by
    rcases keyIs_shape hu with ⟨i, t, rfl, rfl⟩ | ⟨x, t, rfl, rfl⟩
    · rcases keyIs_shape hv with ⟨j, u, rfl, rfl⟩ | ⟨y, u, rfl, rfl⟩
      · rw [key_ll] at h; exact wpAny_eqBool_int h
      · rw [key_lr] at h; exact SeqAt.EqAt.int_str i t y u _ _ _ _ h
    · rcases keyIs_shape hv with ⟨j, u, rfl, rfl⟩ | ⟨y, u, rfl, rfl⟩
      · rw [key_rl] at h; exact SeqAt.EqAt.str_int x t j u _ _ _ _ h
      · rw [key_rr] at h; exact wpAny_eqBool_str h
  «strs» := fun k x t v h => by
    rcases keyIs_shape h with ⟨i, u, rfl, e⟩ | ⟨y, u, rfl, e⟩
    · exact nomatch e
    · injection e with e1 _
      subst e1
      cases v <;> rfl

end L2

namespace L2
open PySem PySem.Spec PyProof.Rows

/-- a value, without the heap -/
inductive V where
  | non | bl (b : Bool) | int (i : Int) | str (x : Str) | byt (b : Array UInt8) | flt (b : UInt64) | ref (a : Addr) | ty (n : String)
  deriving DecidableEq

def RelV : V → Value → Prop
  | .non, u => u = Value.none
  | .bl b, u => u = Value.bool b
  | .int i, u => ∃ t, u = Value.int i t
  | .str x, u => ∃ t, u = Value.str x t
  | .byt b, u => ∃ t, u = Value.bytes b t
  | .flt b, u => ∃ t, u = Value.float b t
  | .ref a, u => u = Value.ref a
  | .ty n, u => u = Value.type n

abbrev Vals : List V → List Value → Prop := Paired RelV
theorem Vals.length {xs : List V} {us : List Value} (r : Vals xs us) : xs.length = us.length := Paired.length r
theorem Vals.get : ∀ {xs : List V} {us : List Value} {i : Nat} {x : V}, Vals xs us → xs[i]? = some x → ∃ u, us[i]? = some u ∧ RelV x u
  | _, _, _, _, .nil, e => by simp at e
  | _, _, 0, _, .cons r _, e => by simp at e; subst e; exact ⟨_, rfl, r⟩
  | _, _, i + 1, x, .cons _ t, e => by
    obtain ⟨u, h1, h2⟩ := Vals.get (i := i) (x := x) t (by simpa using e)
    exact ⟨u, by simpa using h1, h2⟩
theorem Vals.set {x : V} {u : Value} (r : RelV x u) : ∀ {xs : List V} {us : List Value} (i : Nat), Vals xs us → Vals (xs.set i x) (us.set i u)
  | _, _, _, .nil => .nil
  | _, _, 0, .cons _ t => .cons r t
  | _, _, i + 1, .cons q t => .cons q (Vals.set r i t)
theorem Vals.append : ∀ {xs ys : List V} {us ws : List Value}, Vals xs us → Vals ys ws → Vals (xs ++ ys) (us ++ ws)
  | _, _, _, _, .nil, s => s
  | _, _, _, _, .cons r t, s => .cons r (Vals.append t s)
theorem Vals.take : ∀ {xs : List V} {us : List Value} (n : Nat), Vals xs us → Vals (xs.take n) (us.take n)
  | _, _, 0, _ => .nil
  | _, _, _ + 1, .nil => .nil
  | _, _, n + 1, .cons r t => .cons r (Vals.take n t)
theorem Vals.drop : ∀ {xs : List V} {us : List Value} (n : Nat), Vals xs us → Vals (xs.drop n) (us.drop n)
  | _, _, 0, r => r
  | _, _, _ + 1, .nil => .nil
  | _, _, n + 1, .cons _ t => Vals.drop n t
def RelO : Option V → Option Value → Prop
  | some v, some u => RelV v u
  | none, none => True
  | _, _ => False
def KV {κ : Type} : List (κ × V) → List (κ × Value) → Prop := Paired fun (p : κ × V) (q : κ × Value) => p.1 = q.1 ∧ RelV p.2 q.2

/-- a key of a dict (00_mix): an int or a text -/
def kV : Key → V
  | .inl i => .int i
  | .inr x => .str x

/-- what stands at a tracked address -/
inductive HO where
  /-- a list -/
  | lst (xs : List V)
  /-- a tuple (never changes) -/
  | tup (xs : List V)
  /-- a dict whose keys are ints and texts; one whose keys are tuples of ints and texts (the empty one is both) -/
  | dK (kvs : List (Key × V)) | dT (kvs : List (List Key × V))
  /-- a set of ints: its members, its size -/
  | set (S : Int → Bool) (n : Nat)
  /-- an instance of the class at C, its dict at dx, its attributes -/
  | ins (C dx : Addr) (fs : List (Str × V))
  /-- the dict of the instance at x -/
  | own (x : Addr)
  /-- the dict of an exception -/
  | xd (fs : List (Str × V))
  /-- a bound method, f of x -/
  | met (f x : Addr)
  /-- a range object lo, lo + 1, .. below hi -/
  | rng (lo hi : Int)
  /-- a thing that is known to the object (the script; a dict while a loop walks it): read, never written while it is so -/
  | frz (o : Obj) (u : HO)
  /-- a code object's table -/
  | tbl (ps : Array Value)
  /-- any other thing, by what is true of its one object (a def of one's own: SetO a S n := HO.ext fun h => ..) -/
  | ext (φ : Heap → Prop)

abbrev Hp := Addr → Option HO
def upd (H : Hp) (a : Addr) (o : HO) : Hp := fun b => if b = a then some o else H b
theorem upd_same {H : Hp} {a : Addr} {o : HO} : upd H a o a = some o := by unfold upd; rw [if_pos rfl]
theorem upd_ne {H : Hp} {a b : Addr} {o : HO} (h : b ≠ a) : upd H a o b = H b := by unfold upd; rw [if_neg h]
theorem upd_upd {H : Hp} {a : Addr} {o u : HO} : upd (upd H a o) a u = upd H a u := by
  funext b; unfold upd; split <;> rfl
theorem ne_of_none {H : Hp} {a b : Addr} {o : HO} (h : H a = some o) (h' : H b = none) : a ≠ b := by
  intro e; subst e; rw [h] at h'; cases h'

section
variable (P : Program) (w : World)
def ObjOk (H : Hp) (h : Heap) (a : Addr) : HO → Prop
  | .lst xs => xs.length ≤ sizeLine ∧ ∃ (its : List Value) (n : Nat), Vals xs its ∧ h.get? a = some { cls := .type "list", data := .seq its.toArray n }
  | .tup xs => xs.length ≤ sizeLine ∧ ∃ its : List Value, Vals xs its ∧ IsTup h a its.toArray
  | .dK kvs => kvs.length ≤ sizeLine ∧ (a == sysModules) = false ∧ ∃ vs, KV kvs vs ∧ h.DictOf (mixKind P w) a vs
  | .dT kvs => kvs.length ≤ sizeLine ∧ (a == sysModules) = false ∧ ∃ xs : List (List Key × Addr × Value),
      Paired (fun (p : List Key × V) (q : List Key × Addr × Value) => p.1 = q.1 ∧ H q.2.1 = some (.tup (p.1.map kV)) ∧ RelV p.2 q.2.2) kvs xs ∧
      ∃ o es ep, h.get? a = some o ∧ o.ExactDict ∧ o.data = .dict es ep ∧ es.toList = xs.map (entryOfKey (tupleKind (mixKind P w))) ∧ (xs.map (·.1)).Nodup
  | .set S n => h.SetOf (intKind P w) a S n
  | .ins C dx fs => H dx = some (.own a) ∧ fs.length ≤ 1000 ∧ dx ≠ a ∧ h.get? a = some (PySem.W.instObj C dx) ∧
      ∃ mA, h.Ns1 dx mA ∧ (∀ f, RelO (fs.lookup f) (mA f)) ∧ PySem.Within mA (fs.map (·.1))
  | .own _ => ∃ o, h.get? a = some o
  | .xd fs => ∃ mA, h.Ns1 a mA ∧ ∀ f, RelO (fs.lookup f) (mA f)
  | .rng lo hi => ∃ t u v, h.get? a = some { cls := .type "range", data := .fields #[.int lo t, .int hi u, .int 1 v] }
  | .frz o u => h.get? a = some o ∧ ObjOk H h a u
  | .tbl ps => h.get? a = some { cls := .none, data := .fields ps }
  | .met f x => h.get? a = some (PySem.W.methodObj (.ref f) (.ref x))
  | .ext φ => φ h ∧ (∃ o, h.get? a = some o) ∧ ∀ h1 h2 : Heap, φ h1 → (∀ o, h1.get? a = some o → h2.get? a = some o) → φ h2
/-- the abstract heap is held -/
def HOk (H : Hp) (h : Heap) : Prop := ∀ a o, H a = some o → ObjOk P w H h a o
end

section
variable {P : Program} {w : World} {H H' : Hp} {h h' : Heap} {a : Addr} {o : HO}
theorem ObjOk.lt (x : ObjOk P w H h a o) : a < h.objs.size := by
  cases o with
  | lst xs => obtain ⟨_, _, _, _, e⟩ := x; exact Heap.lt_size e
  | tup xs => obtain ⟨_, _, _, p⟩ := x; exact p.lt
  | dK kvs => obtain ⟨_, _, _, _, o, _, _, e, _⟩ := x; exact Heap.lt_size e
  | dT kvs => obtain ⟨_, _, _, _, o, _, _, e, _⟩ := x; exact Heap.lt_size e
  | set S n => obtain ⟨o, _, _, _, e, _⟩ := x; exact Heap.lt_size e
  | ins C dx fs => obtain ⟨_, _, _, e, _⟩ := x; exact Heap.lt_size e
  | own y => obtain ⟨_, e⟩ := x; exact Heap.lt_size e
  | xd fs => obtain ⟨_, ⟨_, _, _, e, _⟩, _⟩ := x; exact Heap.lt_size e
  | rng lo hi => obtain ⟨_, _, _, e⟩ := x; exact Heap.lt_size e
  | frz ob u => obtain ⟨e, _⟩ := x; exact Heap.lt_size e
  | tbl ps => exact Heap.lt_size (show h.get? a = some _ from x)
  | met f y => exact Heap.lt_size (show h.get? a = some _ from x)
  | ext φ => obtain ⟨_, ⟨_, e⟩, _⟩ := x; exact Heap.lt_size e
theorem Paired.mapP {α β : Type} {F G : α → β → Prop} : ∀ {l₁ : List α} {l₂ : List β}, Paired F l₁ l₂ → (∀ a b, F a b → G a b) → Paired G l₁ l₂
  | _, _, .nil, _ => .nil
  | _, _, .cons r t, f => .cons (f _ _ r) (Paired.mapP t f)
/-- what an object's description leans on: its own object, its own dict, the tuples -/
theorem ObjOk.stay (x : ObjOk P w H h a o) (k : ∀ b u, (b = a ∨ H b = some (.own a)) → h.get? b = some u → h'.get? b = some u)
    (ho : ∀ b, H b = some (.own a) → H' b = some (.own a)) (ht : ∀ b xs, H b = some (.tup xs) → H' b = some (.tup xs)) : ObjOk P w H' h' a o := by
  induction o with
  | lst xs => obtain ⟨z, its, n, r, e⟩ := x; exact ⟨z, its, n, r, k _ _ (.inl rfl) e⟩
  | tup xs => obtain ⟨z, its, r, ob, e, c⟩ := x; exact ⟨z, its, r, ob, k _ _ (.inl rfl) e, c⟩
  | dK kvs => obtain ⟨z, y, vs, r, ob, es, ep, e, c⟩ := x; exact ⟨z, y, vs, r, ob, es, ep, k _ _ (.inl rfl) e, c⟩
  | dT kvs =>
    obtain ⟨z, y, xs, r, ob, es, ep, e, c⟩ := x
    exact ⟨z, y, xs, Paired.mapP r fun p q z => ⟨z.1, ht _ _ z.2.1, z.2.2⟩, ob, es, ep, k _ _ (.inl rfl) e, c⟩
  | set S n => obtain ⟨ob, es, ep, t, e, c⟩ := x; exact ⟨ob, es, ep, t, k _ _ (.inl rfl) e, c⟩
  | ins C dx fs =>
    obtain ⟨d, z, ne, e, mA, ⟨od, es, ep, e2, c⟩, r⟩ := x
    exact ⟨ho _ d, z, ne, k _ _ (.inl rfl) e, mA, ⟨od, es, ep, k _ _ (.inr d) e2, c⟩, r⟩
  | own y => obtain ⟨ob, e⟩ := x; exact ⟨ob, k _ _ (.inl rfl) e⟩
  | xd fs => obtain ⟨mA, ⟨od, es, ep, e, c⟩, r⟩ := x; exact ⟨mA, ⟨od, es, ep, k _ _ (.inl rfl) e, c⟩, r⟩
  | rng lo hi => obtain ⟨t, u, v, e⟩ := x; exact ⟨t, u, v, k _ _ (.inl rfl) e⟩
  | frz ob u ih => obtain ⟨e, q⟩ := x; exact ⟨k _ _ (.inl rfl) e, ih q⟩
  | tbl ps =>
    have e : h.get? a = some { cls := .none, data := .fields ps } := x
    show h'.get? a = some { cls := .none, data := .fields ps }
    exact k a _ (.inl rfl) e
  | met f y =>
    have e : h.get? a = some (PySem.W.methodObj (.ref f) (.ref y)) := x
    show h'.get? a = some (PySem.W.methodObj (.ref f) (.ref y))
    exact k a _ (.inl rfl) e
  | ext φ => obtain ⟨p, ⟨o, e⟩, st⟩ := x; exact ⟨st _ _ p fun o q => k _ _ (.inl rfl) q, ⟨o, k _ _ (.inl rfl) e⟩, st⟩
theorem HOk.lt (x : HOk P w H h) (e : H a = some o) : a < h.objs.size := (x a o e).lt
theorem HOk.fresh (x : HOk P w H h) (e : h.objs.size ≤ a) : H a = none := by
  cases q : H a with
  | none => rfl
  | some u => exact absurd (Nat.lt_of_lt_of_le (x.lt q) e) (Nat.lt_irrefl _)
/-- every object of the heap is kept -/
theorem HOk.kept (x : HOk P w H h) (k : ∀ b u, h.get? b = some u → h'.get? b = some u) : HOk P w H h' := fun a o e =>
  (x a o e).stay (fun b u _ q => k b u q) (fun _ q => q) fun _ _ q => q
/-- a new object is laid and tracked -/
theorem HOk.laid (x : HOk P w H h) (k : ∀ b u, h.get? b = some u → h'.get? b = some u) (hp : h.objs.size ≤ a) (new : ObjOk P w (upd H a o) h' a o) : HOk P w (upd H a o) h' := fun b u e => by
  have hn := x.fresh hp
  by_cases hb : b = a
  · subst hb; rw [upd_same] at e; cases e; exact new
  · rw [upd_ne hb] at e
    exact (x b u e).stay (fun c v _ q => k c v q) (fun c q => by rw [upd_ne (ne_of_none q hn)]; exact q) fun c xs q => by rw [upd_ne (ne_of_none q hn)]; exact q
end

/-- what may be read as u: it is u, or a known u -/
def Rd (H : Hp) (a : Addr) (u : HO) : Prop := H a = some u ∨ ∃ o, H a = some (.frz o u)
theorem Rd.ok {P : Program} {w : World} {H : Hp} {h : Heap} {a : Addr} {u : HO} (r : Rd H a u) (x : HOk P w H h) : ObjOk P w H h a u := by
  rcases r with r | ⟨o, r⟩
  · exact x a u r
  · obtain ⟨_, q⟩ := x a _ r
    exact q
/-- what may be written -/
def Mut : Option HO → Prop
  | some (.lst _) => True
  | some (.dK _) => True
  | some (.dT _) => True
  | some (.set _ _) => True
  | some (.ins _ _ _) => True
  | some (.ext _) => True
  | _ => False
section
variable {P : Program} {w : World} {H : Hp} {h h' : Heap} {x e : Addr} {o' : HO}
/-- the object at e is changed: x itself, or the dict of the instance x -/
theorem HOk.write (ok : HOk P w H h) (mu : Mut (H x)) (he : e = x ∨ H e = some (.own x)) (k : ∀ b u, b ≠ e → h.get? b = some u → h'.get? b = some u) (heo : ∃ u, h'.get? e = some u)
    (new : ObjOk P w (upd H x o') h' x o') : HOk P w (upd H x o') h' := fun b u q => by
  have nown : ∀ c y, H c = some (.own y) → c ≠ x := fun c y r z => by subst z; rw [r] at mu; exact mu
  have ntup : ∀ c xs, H c = some (.tup xs) → c ≠ x := fun c xs r z => by subst z; rw [r] at mu; exact mu
  by_cases hb : b = x
  · subst hb; rw [upd_same] at q; cases q; exact new
  · rw [upd_ne hb] at q
    by_cases hbe : b = e
    · have q' : H b = some (.own x) := by
        rcases he with z | z
        · exact absurd (hbe.trans z) hb
        · rw [hbe]; exact z
      rw [q] at q'; cases q'
      obtain ⟨v, hv⟩ := heo
      exact ⟨v, by rw [hbe]; exact hv⟩
    · refine (ok b u q).stay (fun c v hc r => k c v ?_ r) (fun c r => by rw [upd_ne (nown c b r)]; exact r) fun c xs r => by rw [upd_ne (ntup c xs r)]; exact r
      rcases hc with rfl | hc
      · exact hbe
      · rintro rfl
        rcases he with z | z
        · exact nown c b hc z
        · rw [hc] at z; cases z; exact hb rfl
end

/-! ### kept unless tracked; of the frames at fs (the callers') the slots may change (an exception that passes writes there); of the records at ex (iterators) nothing is said -/
structure Un (fs ex : List Addr) (H H' : Hp) (h h' : Heap) : Prop where
  keep : ∀ b o, h.get? b = some o → H b = none → b ∉ fs → b ∉ ex → h'.get? b = some o
  slot : ∀ b o, h.get? b = some o → H b = none → b ∈ fs → b ∉ ex → ∃ sl, h'.get? b = some { o with slots := sl }
  free : ∀ b o, h.get? b = some o → H b = none → b ∉ ex → H' b = none
  there : ∀ b o, h.get? b = some o → b ∉ ex → ∃ o', h'.get? b = some o'
  tups : ∀ b xs, H b = some (.tup xs) → H' b = some (.tup xs)
  frzs : ∀ b o u, H b = some (.frz o u) → H' b = some (.frz o u)
  tbls : ∀ b ps, H b = some (.tbl ps) → ∃ more, H' b = some (.tbl (ps ++ more))
section
variable {fs fs' ex ex' : List Addr} {H H1 H2 : Hp} {h h1 h2 h' : Heap} {a x e : Addr} {o : HO}
theorem Un.any (u : Un fs ex H H1 h h1) {b : Addr} {ob : Obj} (q : h.get? b = some ob) (n : H b = none) (hx : b ∉ ex) : ∃ sl, h1.get? b = some { ob with slots := sl } := by
  by_cases hb : b ∈ fs
  · exact u.slot b ob q n hb hx
  · exact ⟨ob.slots, u.keep b ob q n hb hx⟩
theorem Un.kept (k : ∀ b u, h.get? b = some u → h'.get? b = some u) : Un fs ex H H h h' :=
  ⟨fun b ob q _ _ _ => k b ob q, fun b ob q _ _ _ => ⟨ob.slots, k b ob q⟩, fun _ _ _ n _ => n, fun b ob q _ => ⟨ob, k b ob q⟩, fun _ _ q => q, fun _ _ _ q => q, fun _ ps q => ⟨#[], by rw [q]; simp⟩⟩
theorem Un.refl : Un fs ex H H h h := Un.kept fun _ _ q => q
theorem Un.laid (k : ∀ b u, h.get? b = some u → h'.get? b = some u) (hp : h.objs.size ≤ a) (hn : H a = none) : Un fs ex H (upd H a o) h h' where
  keep := fun b u q _ _ _ => k b u q
  slot := fun b u q _ _ _ => ⟨u.slots, k b u q⟩
  free := fun b u q n _ => by rw [upd_ne (Nat.ne_of_lt (Nat.lt_of_lt_of_le (Heap.lt_size q) hp))]; exact n
  there := fun b u q _ => ⟨u, k b u q⟩
  tups := fun b xs q => by rw [upd_ne (ne_of_none q hn)]; exact q
  frzs := fun b u xs q => by rw [upd_ne (ne_of_none q hn)]; exact q
  tbls := fun b ps q => ⟨#[], by rw [upd_ne (ne_of_none q hn), q]; simp⟩
theorem Un.write (mu : Mut (H x)) (he : e = x ∨ H e = some (.own x)) (k : ∀ b u, b ≠ e → h.get? b = some u → h'.get? b = some u) (heo : ∃ u, h'.get? e = some u) : Un fs ex H (upd H x o) h h' := by
  have hx : ∀ b, H b = none → b ≠ x := fun b n z => by subst z; rw [n] at mu; exact mu
  have hb : ∀ b, H b = none → b ≠ e := fun b n z => by
    subst z
    rcases he with r | r
    · exact hx b n r
    · rw [n] at r; cases r
  have hm : ∀ b u, H b = some u → ¬ Mut (some u) → b ≠ x := fun b u q nm z => by subst z; rw [q] at mu; exact nm mu
  refine ⟨fun b u q n _ _ => k b u (hb b n) q, fun b u q n _ _ => ⟨u.slots, k b u (hb b n) q⟩, fun b u q n _ => by rw [upd_ne (hx b n)]; exact n, fun b u q _ => ?_,
    fun b xs q => by rw [upd_ne (hm b _ q fun z => z)]; exact q, fun b u xs q => by rw [upd_ne (hm b _ q fun z => z)]; exact q, fun b ps q => ⟨#[], by rw [upd_ne (hm b _ q fun z => z), q]; simp⟩⟩
  by_cases hbe : b = e
  · subst hbe; exact heo
  · exact ⟨u, k b u hbe q⟩
end

/-! ### the heap without what is tracked -/
def trk (h : Heap) (H : Hp) : List Addr := (List.range h.objs.size).filter fun a => (H a).isSome
def hidT (h : Heap) (H : Hp) : Heap := PySem.W.hideAll h (trk h H)
theorem hidT_size (h : Heap) (H : Hp) : (hidT h H).objs.size = h.objs.size := PySem.W.hideAll_size _ _
theorem hidT_get {h : Heap} {H : Hp} {b : Addr} {o : Obj} (e : h.get? b = some o) (n : H b = none) : (hidT h H).get? b = some o :=
  PySem.W.hideAll_get _ e fun hm => by
    have q : (H b).isSome = true := (List.mem_filter.mp hm).2
    rw [n] at q; simp at q
theorem of_hidT {h : Heap} {H : Hp} {b : Addr} {o : Obj} (e : (hidT h H).get? b = some o) : h.get? b = some o ∧ H b = none := by
  have e' : h.get? b = some o := PySem.W.of_hideAll (trk h H) e
  refine ⟨e', ?_⟩
  cases q : H b with
  | none => rfl
  | some x =>
    have hm : b ∈ trk h H := List.mem_filter.mpr ⟨List.mem_range.mpr (Heap.lt_size e'), by simp [q]⟩
    have z : (hidT h H).get? b = none := PySem.W.hideAll_none (trk h H) hm
    rw [z] at e; cases e

/-! ### OpenK's ledger, filled with every new object but one -/
end L2

namespace L2
open PySem PySem.Spec PyProof.Rows

/-- the module's facts, over the base: the heap at the law's entry without what is tracked there -/
structure Mod (K : PySem.W.Frag) (mg : Str → Option Value) (base : Heap) : Prop where
  kin : K.In base
  glob : base.Ns mainGlobals mg
  blt : ∃ mb, base.Ns builtinsNs mb ∧ ∀ x : Str, x ≠ "__name__" → mb x = bootBuiltins x
  nolimit : base.NoLimit

/-- the context: a def's body (or a comprehension's block) running. base: fixed through the whole law; s₀, H₀: the entry; outer: the frames whose slots others may change (a def's callers); stack: all frames that run;
   ex: iterators that were made ahead of the entry and are walked here (a comprehension's); fn: the names whose cells were made at the entry (a def: all; a comprehension's block: its own); calm: not within an except suite; pn: pins that every state bears; xe: what is wanted of an exception that leaves the code -/
structure Cx where
  prog : Program
  w : World
  K : PySem.W.Frag
  mg : Str → Option Value
  base : Heap
  A : Around
  N : List Str
  s₀ : Shared
  H₀ : Hp
  env : Env
  outer : List Env
  stack : List Env
  ex : List Addr
  fn : Str → Bool
  calm : Bool
  pn : List (Addr × Obj)
  xe : Value → Shared → Prop
/-- the callers' frames -/
def frs (l : List Env) : List Addr := l.filterMap (·.frame)
abbrev Cx.fs (X : Cx) : List Addr := frs X.outer

def Vis (sc : Scope) (x : Str) : Prop := sc.names.lookup x = some .local ∨ sc.names.lookup x = some .cell ∨ sc.names.lookup x = some .free
def Loc (sc : Scope) (x : Str) : Prop := sc.names.lookup x = some .local ∨ sc.names.lookup x = some .cell
def Look (env : Env) (h : Heap) (m : Str → Option Value) (x : Str) (u : Value) : Prop :=
  (env.kindOf x = some .local ∧ m x = some u) ∨ ((env.kindOf x = some .cell ∨ env.kindOf x = some .free) ∧ ∃ c, env.cells.lookup x = some c ∧ h.IsCell c (some u))

structure Cx.Ok (X : Cx) : Prop where
  mod : Mod X.K X.mg X.base
  kind : X.env.scope.kind = .function
  glob : X.env.globals = mainGlobals
  blt : X.env.builtins = builtinsNs
  above : X.s₀.heap.objs.size ≤ X.env.locals
  inj : ∀ x y c, X.env.cells.lookup x = some c → X.env.cells.lookup y = some c → x = y
  has : ∀ x, (X.env.kindOf x = some .cell ∨ X.env.kindOf x = some .free) → ∃ c, X.env.cells.lookup x = some c
  cab : ∀ x c, X.fn x = true → X.env.cells.lookup x = some c → X.s₀.heap.objs.size ≤ c
  hd : X.calm = true → X.A.handled = none
  frames : X.A.frames = some X.stack
  stk : X.stack = X.outer ∨ (X.stack = X.env :: X.outer ∧ X.env.frame = some X.env.locals)
  exf : ∀ b ∈ X.ex, b ≠ X.env.locals ∧ ∀ x c, X.env.cells.lookup x = some c → c ≠ b
  bs : ∀ b o, X.base.get? b = some o → X.s₀.heap.get? b = some o ∧ X.H₀ b = none
  bsz : X.base.objs.size ≤ X.s₀.heap.objs.size
  noex : ∀ b o, X.base.get? b = some o → b ∉ X.ex
  exfs : ∀ b ∈ X.ex, b ∉ X.fs
  funs : X.s₀.heap.FunFrames X.base X.outer
  frf : ∀ b ∈ X.fs, X.H₀ b = none

structure Inv (X : Cx) (pins : List (Addr × Obj)) (σ : List (Option V)) (H : Hp) (s : Shared) : Prop where
  ok : X.Ok
  os : s.os = X.s₀.os
  bare : AllBare s.gens
  base : Un X.fs X.ex X.H₀ H X.s₀.heap s.heap
  loc : ∃ m, s.heap.Ns X.env.locals m ∧ ∀ (i : Nat) (x : Str) (v : V), X.N[i]? = some x → σ[i]? = some (some v) → Vis X.env.scope x → ∃ u, RelV v u ∧ Look X.env s.heap m x u
  cell : ∀ x c, X.env.cells.lookup x = some c → ∃ v, s.heap.IsCell c v
  free : H X.env.locals = none
  freeC : ∀ x c, X.env.cells.lookup x = some c → H c = none
  pin : ∀ p ∈ X.pn ++ pins, s.heap.get? p.1 = some p.2 ∧ H p.1 = none ∧ p.1 ≠ X.env.locals ∧ p.1 ∉ X.fs ∧ ∀ v, p.2.data ≠ .cell v
  hok : HOk X.prog X.w H s.heap
  len : σ.length = X.N.length

section
variable {X : Cx} {pins : List (Addr × Obj)} {σ : List (Option V)} {H H' : Hp} {s : Shared} {h' : Heap}

theorem Cx.Ok.nofr (ok : X.Ok) {b : Addr} {o : Obj} (e : X.base.get? b = some o) : b ∉ X.fs := fun hb => by
  have := (ok.funs.mem hb).1
  rw [e] at this; cases this
theorem Inv.bs (I : Inv X pins σ H s) : ∀ b o, X.base.get? b = some o → s.heap.get? b = some o ∧ H b = none := fun b o e =>
  ⟨I.base.keep b o (I.ok.bs b o e).1 (I.ok.bs b o e).2 (I.ok.nofr e) (I.ok.noex b o e), I.base.free b o (I.ok.bs b o e).1 (I.ok.bs b o e).2 (I.ok.noex b o e)⟩
theorem Inv.bk (I : Inv X pins σ H s) : ∀ b o, X.base.get? b = some o → s.heap.get? b = some o := fun b o e => (I.bs b o e).1
theorem Inv.mod (I : Inv X pins σ H s) : Mod X.K X.mg X.base := I.ok.mod
theorem Inv.kIn (I : Inv X pins σ H s) : X.K.In s.heap := I.ok.mod.kin.keeps I.bk
/-- the frame over the base: for OpenK's rules (K.In X.base is I.mod.kin) -/
theorem Inv.fr (I : Inv X pins σ H s) : ∃ m, Fr X.base X.env.locals s.heap m :=
  let ⟨m, hn, _⟩ := I.loc
  ⟨m, hn, I.bk, Nat.le_trans I.ok.bsz I.ok.above⟩
theorem Inv.lt (I : Inv X pins σ H s) : X.env.locals < s.heap.objs.size := let ⟨_, hn, _⟩ := I.loc; hn.lt
theorem Inv.sz (I : Inv X pins σ H s) : X.s₀.heap.objs.size ≤ s.heap.objs.size := Nat.le_trans I.ok.above (Nat.le_of_lt I.lt)
theorem Inv.nofs (I : Inv X pins σ H s) {a : Addr} (h : s.heap.objs.size ≤ a) : a ∉ X.fs := fun hb => by
  obtain ⟨_, o, ho, _⟩ := I.ok.funs.mem hb
  exact absurd (Nat.lt_of_lt_of_le (Heap.lt_size ho) (Nat.le_trans I.sz h)) (Nat.lt_irrefl _)
theorem Inv.cne (I : Inv X pins σ H s) : ∀ x c, X.env.cells.lookup x = some c → c ≠ X.env.locals := fun x c e z => by
  obtain ⟨v, o, ho, hd⟩ := I.cell x c e
  obtain ⟨m, ⟨o', es, ep, ho', hd', _⟩, _⟩ := I.loc
  rw [z, ho'] at ho; cases ho; rw [hd'] at hd; cases hd
theorem Inv.funs (I : Inv X pins σ H s) : s.heap.FunFrames X.base X.outer := by
  have all : ∀ (l : List Env), (∀ b ∈ frs l, b ∈ X.fs) → X.s₀.heap.FunFrames X.base l → s.heap.FunFrames X.base l := by
    intro l
    induction l with
    | nil => intro _ _; trivial
    | cons env r ih =>
      intro hs hl
      obtain ⟨hk, ⟨L, o, hf, hn, ho, hd⟩, hr⟩ := hl
      have hL : L ∈ X.fs := hs L (by unfold frs; rw [List.filterMap_cons, hf]; exact List.mem_cons_self)
      obtain ⟨sl, e⟩ := I.base.slot L o ho (I.ok.frf L hL) hL fun z => I.ok.exfs L z hL
      exact ⟨hk, ⟨L, _, hf, hn, e, hd⟩, ih (fun b hb => hs b (by unfold frs; rw [List.filterMap_cons, hf]; exact List.mem_cons_of_mem _ hb)) hr⟩
  exact all X.outer (fun _ hb => hb) I.ok.funs

/-- the frames that run, for a call -/
theorem Inv.stack (I : Inv X pins σ H s) : s.heap.FunFrames X.base X.stack := by
  rcases I.ok.stk with e | ⟨e, hf⟩
  · rw [e]; exact I.funs
  · rw [e]
    obtain ⟨m, hn, _⟩ := I.loc
    refine .cons (by rw [I.ok.kind]; decide) hf hn ?_ I.funs
    exact Heap.get?_none_of_le (Nat.le_trans I.ok.bsz I.ok.above)
theorem Inv.stkSub (I : Inv X pins σ H s) : ∀ b ∈ frs X.stack, b ∈ X.env.locals :: X.fs := fun b hb => by
  rcases I.ok.stk with e | ⟨e, hf⟩
  · rw [e] at hb; exact List.mem_cons_of_mem _ hb
  · rw [e] at hb
    unfold frs at hb
    rw [List.filterMap_cons, hf] at hb
    exact hb
theorem Inv.stkFree (I : Inv X pins σ H s) : ∀ b ∈ frs X.stack, H b = none := fun b hb => by
  rcases List.mem_cons.mp (I.stkSub b hb) with e | hb
  · rw [e]; exact I.free
  · obtain ⟨_, o, ho, _⟩ := I.ok.funs.mem hb
    exact I.base.free b o ho (I.ok.frf b hb) fun z => I.ok.exfs b z hb

/-- THE STEP: the untracked objects but the frame and the records at ch are kept (the callers' frames up to slots), the frame's map is kept, the new abstract heap is held -/
theorem Inv.step {g' : Array GenState} {t' : Nat} {d' : Drawn} {ch : List Addr} (I : Inv X pins σ H s)
    (hch : ∀ b ∈ ch, (b ∈ X.ex ∨ X.s₀.heap.objs.size ≤ b) ∧ b ≠ X.env.locals ∧ (∀ x c, X.env.cells.lookup x = some c → c ≠ b) ∧ ∀ p ∈ X.pn ++ pins, p.1 ≠ b)
    (keep : ∀ b o, b ≠ X.env.locals → b ∉ X.fs → b ∉ ch → s.heap.get? b = some o → H b = none → h'.get? b = some o)
    (slot : ∀ b o, b ≠ X.env.locals → b ∈ X.fs → b ∉ ch → s.heap.get? b = some o → H b = none → ∃ sl, h'.get? b = some { o with slots := sl }) (free : ∀ b o, b ∉ ch → s.heap.get? b = some o → H b = none → H' b = none)
    (there : ∀ b o, b ∉ ch → s.heap.get? b = some o → ∃ o', h'.get? b = some o')
    (tups : ∀ b xs, H b = some (.tup xs) → H' b = some (.tup xs)) (frzs : ∀ b o u, H b = some (.frz o u) → H' b = some (.frz o u)) (tbls : ∀ b ps, H b = some (.tbl ps) → ∃ more, H' b = some (.tbl (ps ++ more)))
    (ns : ∀ m, s.heap.Ns X.env.locals m → h'.Ns X.env.locals m) (hok : HOk X.prog X.w H' h') (hg : AllBare g') :
    Inv X pins σ H' { s with heap := h', gens := g', drawn := d', toks := t' } := by
  have neL : ∀ b o, X.s₀.heap.get? b = some o → b ≠ X.env.locals := fun b o e => Nat.ne_of_lt (Nat.lt_of_lt_of_le (Heap.lt_size e) I.ok.above)
  have neC : ∀ b o, X.s₀.heap.get? b = some o → b ∉ X.ex → b ∉ ch := fun b o e hx hb => by
    rcases (hch b hb).1 with z | z
    · exact hx z
    · exact absurd (Nat.lt_of_lt_of_le (Heap.lt_size e) z) (Nat.lt_irrefl _)
  have cellK : ∀ x c, X.env.cells.lookup x = some c → ∀ v, s.heap.IsCell c v → h'.IsCell c v := fun x c e v ⟨o, ho, hd⟩ => by
    have nch : c ∉ ch := fun z => (hch c z).2.2.1 x c e rfl
    by_cases hc : c ∈ X.fs
    · obtain ⟨sl, q⟩ := slot c o (I.cne x c e) hc nch ho (I.freeC x c e)
      exact ⟨_, q, hd⟩
    · exact ⟨o, keep c o (I.cne x c e) hc nch ho (I.freeC x c e), hd⟩
  refine ⟨I.ok, I.os, hg, ⟨fun b o e n hb hx => ?_, fun b o e n hb hx => ?_, fun b o e n hx => ?_, fun b o e hx => ?_, fun b xs e => tups b xs (I.base.tups b xs e), fun b o xs e => frzs b o xs (I.base.frzs b o xs e), fun b ps e => ?_⟩, ?_, fun x c e => ?_, ?_, fun x c e => ?_, fun p hp => ?_, hok, I.len⟩
  · exact keep b o (neL b o e) hb (neC b o e hx) (I.base.keep b o e n hb hx) (I.base.free b o e n hx)
  · obtain ⟨sl, e1⟩ := I.base.slot b o e n hb hx
    obtain ⟨sl', e2⟩ := slot b _ (neL b o e) hb (neC b o e hx) e1 (I.base.free b o e n hx)
    exact ⟨sl', e2⟩
  · obtain ⟨o', e1⟩ := I.base.there b o e hx
    exact free b o' (neC b o e hx) e1 (I.base.free b o e n hx)
  · obtain ⟨o', e1⟩ := I.base.there b o e hx
    exact there b o' (neC b o e hx) e1
  · obtain ⟨m1, e1⟩ := I.base.tbls b ps e
    obtain ⟨m2, e2⟩ := tbls b _ e1
    exact ⟨m1 ++ m2, by rw [e2, Array.append_assoc]⟩
  · obtain ⟨m, hn, hl⟩ := I.loc
    refine ⟨m, ns m hn, fun i x v e1 e2 e3 => ?_⟩
    obtain ⟨u, r, l⟩ := hl i x v e1 e2 e3
    refine ⟨u, r, ?_⟩
    rcases l with l | ⟨k, c, e, z⟩
    · exact .inl l
    · exact .inr ⟨k, c, e, cellK x c e _ z⟩
  · obtain ⟨v, z⟩ := I.cell x c e
    exact ⟨v, cellK x c e v z⟩
  · obtain ⟨m, ⟨o, _, _, ho, _⟩, _⟩ := I.loc
    exact free _ o (fun z => (hch _ z).2.1 rfl) ho I.free
  · obtain ⟨v, o, ho, hd⟩ := I.cell x c e
    exact free c o (fun z => (hch c z).2.2.1 x c e rfl) ho (I.freeC x c e)
  · obtain ⟨e, n, ne, nf, d⟩ := I.pin p hp
    have nch : p.1 ∉ ch := fun z => (hch p.1 z).2.2.2 p hp rfl
    exact ⟨keep p.1 p.2 ne nf nch e n, free p.1 p.2 nch e n, ne, nf, d⟩
/-- .. where the frame's own object is kept too -/
theorem Inv.un {t' : Nat} (I : Inv X pins σ H s) (u : Un X.fs [] H H' s.heap h') (hok : HOk X.prog X.w H' h') : Inv X pins σ H' { s with heap := h', toks := t' } := by
  obtain ⟨m, ⟨o, es, ep, ho, r⟩, _⟩ := id I.loc
  obtain ⟨sl, hL⟩ := u.any ho I.free (by simp)
  exact I.step (g' := s.gens) (d' := s.drawn) (ch := []) (fun _ z => nomatch z) (fun b o _ hb _ e n => u.keep b o e n hb (by simp)) (fun b o _ hb _ e n => u.slot b o e n hb (by simp)) (fun b o _ e n => u.free b o e n (by simp)) (fun b o _ e => u.there b o e (by simp)) u.tups u.frzs u.tbls (fun m' hm => by
    obtain ⟨o', es', ep', ho', r'⟩ := hm
    rw [ho] at ho'; cases ho'
    exact ⟨_, es', ep', hL, r'⟩) hok I.bare
/-- behind a call (or a comprehension's block): the slots of this frame may have changed too, the records at ch may have turned -/
theorem Inv.call {g' : Array GenState} {t' : Nat} {d' : Drawn} {ch : List Addr} (I : Inv X pins σ H s) (u : Un (frs X.stack) ch H H' s.heap h') (hok : HOk X.prog X.w H' h') (hg : AllBare g')
    (hch : ∀ b ∈ ch, (b ∈ X.ex ∨ X.s₀.heap.objs.size ≤ b) ∧ b ≠ X.env.locals ∧ (∀ x c, X.env.cells.lookup x = some c → c ≠ b) ∧ ∀ p ∈ X.pn ++ pins, p.1 ≠ b) :
    Inv X pins σ H' { s with heap := h', gens := g', drawn := d', toks := t' } := by
  obtain ⟨m, ⟨o, es, ep, ho, r⟩, _⟩ := id I.loc
  obtain ⟨sl, hL⟩ := u.any ho I.free fun z => (hch _ z).2.1 rfl
  exact I.step (ch := ch) hch (fun b o hL hb hc e n => u.keep b o e n (fun z => (List.mem_cons.mp (I.stkSub b z)).elim hL hb) hc) (fun b o _ _ hc e n => u.any e n hc) (fun b o hc e n => u.free b o e n hc) (fun b o hc e => u.there b o e hc) u.tups u.frzs u.tbls (fun m' hm => by
    obtain ⟨o', es', ep', ho', r'⟩ := hm
    rw [ho] at ho'; cases ho'
    exact ⟨_, es', ep', hL, r'⟩) hok hg
/-- an untracked record of ours (an iterator) has turned -/
theorem Inv.turned {t' : Nat} {it : Addr} (I : Inv X pins σ H s) (k : ∀ b o, b ≠ it → s.heap.get? b = some o → h'.get? b = some o) (hn : H it = none) (hL : it ≠ X.env.locals)
    (h1 : it ∈ X.ex ∨ X.s₀.heap.objs.size ≤ it) (h2 : ∀ x c, X.env.cells.lookup x = some c → c ≠ it) (h3 : ∀ p ∈ X.pn ++ pins, p.1 ≠ it) : Inv X pins σ H { s with heap := h', toks := t' } := by
  have nit : ∀ b u, H b = some u → b ≠ it := fun b u e z => by rw [z, hn] at e; cases e
  refine I.step (g' := s.gens) (d' := s.drawn) (ch := [it]) (fun b hb => ?_) (fun b o _ _ hc e _ => k b o (fun z => hc (by simp [z])) e) (fun b o _ _ hc e _ => ⟨o.slots, k b o (fun z => hc (by simp [z])) e⟩) (fun _ _ _ _ n => n)
    (fun b o hc e => ⟨o, k b o (fun z => hc (by simp [z])) e⟩) (fun _ _ e => e) (fun _ _ _ e => e) (fun b ps e => ⟨#[], by rw [e]; simp⟩) (fun m hm => ?_) (fun b u e => ?_) I.bare
  · have e : b = it := by simpa using hb
    subst e
    exact ⟨h1, hL, h2, h3⟩
  · obtain ⟨o, es, ep, ho, r⟩ := hm
    exact ⟨o, es, ep, k _ o (Ne.symm hL) ho, r⟩
  · refine (I.hok b u e).stay (fun c v hc q => k c v ?_ q) (fun _ q => q) fun _ _ q => q
    rcases hc with z | z
    · rw [z]; exact nit b u e
    · exact nit c _ z
theorem Inv.tok (I : Inv X pins σ H s) (t : Nat) : Inv X pins σ H { s with toks := t } := I.un (h' := s.heap) (t' := t) Un.refl I.hok
/-- all objects kept -/
theorem Inv.kept {t' : Nat} (I : Inv X pins σ H s) (k : ∀ b u, s.heap.get? b = some u → h'.get? b = some u) : Inv X pins σ H { s with heap := h', toks := t' } := I.un (Un.kept k) (I.hok.kept k)
/-- a new object laid and tracked -/
theorem Inv.laid {a : Addr} {o : HO} {t' : Nat} (I : Inv X pins σ H s) (k : ∀ b u, s.heap.get? b = some u → h'.get? b = some u) (hp : s.heap.objs.size ≤ a) (new : ObjOk X.prog X.w (upd H a o) h' a o) :
    Inv X pins σ (upd H a o) { s with heap := h', toks := t' } := I.un (Un.laid k hp (I.hok.fresh hp)) (I.hok.laid k hp new)
/-- an object written -/
theorem Inv.write {x e : Addr} {o : HO} {t' : Nat} (I : Inv X pins σ H s) (mu : Mut (H x)) (he : e = x ∨ H e = some (.own x)) (k : ∀ b u, b ≠ e → s.heap.get? b = some u → h'.get? b = some u) (heo : ∃ u, h'.get? e = some u)
    (new : ObjOk X.prog X.w (upd H x o) h' x o) : Inv X pins σ (upd H x o) { s with heap := h', toks := t' } := I.un (Un.write mu he k heo) (I.hok.write mu he k heo new)
theorem Inv.pins_of {pins' : List (Addr × Obj)} (I : Inv X pins σ H s) (h : ∀ p ∈ pins', s.heap.get? p.1 = some p.2 ∧ H p.1 = none ∧ p.1 ≠ X.env.locals ∧ p.1 ∉ X.fs ∧ ∀ v, p.2.data ≠ .cell v) : Inv X pins' σ H s :=
  ⟨I.ok, I.os, I.bare, I.base, I.loc, I.cell, I.free, I.freeC, fun p hp => (List.mem_append.mp hp).elim (fun z => I.pin p (List.mem_append_left _ z)) (h p), I.hok, I.len⟩

theorem nodup_ix {N : List Str} (hN : N.Nodup) {i j : Nat} {x : Str} (a : N[i]? = some x) (b : N[j]? = some x) : i = j := by
  obtain ⟨h1, e1⟩ := List.getElem?_eq_some_iff.mp a
  obtain ⟨h2, e2⟩ := List.getElem?_eq_some_iff.mp b
  exact (List.getElem_inj hN).mp (e1.trans e2.symm)

/-- a name is stored; what changed -/
theorem store_ok2 {M : Model} {A : Around} {E : Value → Shared → Prop} {i : Nat} {x : Str} {v : V} {u : Value} {Q : Unit → Shared → Prop} (I : Inv X pins σ H s) (hN : X.N.Nodup) (hi : X.N[i]? = some x) (hx : Loc X.env.scope x) (r : RelV v u)
    (h : ∀ s', Inv X pins (σ.set i (some v)) H s' → (∃ a, Heap.SameBut a s.heap s'.heap ∧ (a = X.env.locals ∨ X.env.cells.lookup x = some a)) → Q () s') (hf : X.fn x = true ∨ X.env.scope.names.lookup x = some .local := by first | exact .inl rfl | exact .inr rfl | assumption) : wpAny M A (storeName X.env x u) Q E s := by
  obtain ⟨m, hn, hl⟩ := id I.loc
  have hcls : (X.env.scope.kind == .class || (X.env.scope.kind == .module && X.env.locals != X.env.globals)) = false := by rw [I.ok.kind]; rfl
  have hiσ : i < σ.length := by rw [I.len]; exact (List.getElem?_eq_some_iff.mp hi).1
  have cne := I.cne
  have tracked : ∀ {a : Addr} {h' : Heap}, (∃ o, s.heap.get? a = some o ∧ H a = none) → Heap.SameBut a s.heap h' → HOk X.prog X.w H h' := fun {a h'} ha hs b ob e => by
    obtain ⟨_, _, hfree⟩ := ha
    refine (I.hok b ob e).stay (fun c w' hc q => (hs.2 c ?_).trans q) (fun _ q => q) fun _ _ q => q
    rintro rfl
    rcases hc with rfl | hc
    · rw [hfree] at e; cases e
    · rw [hfree] at hc; cases hc
  rcases hx with hk | hk
  · refine wpAny_storeName_local hk hn (fun h' hn' hs => ?_) hcls
    obtain ⟨oL, _, _, hoL, _⟩ := id hn
    refine h _ ⟨I.ok, I.os, I.bare, ⟨fun b o e n hb hx => ?_, fun b o e n hb hx => ?_, I.base.free, fun b o e hx => ?_, I.base.tups, I.base.frzs, I.base.tbls⟩, ⟨_, hn', fun j y v' e1 e2 e3 => ?_⟩, fun y c e => ?_, I.free, I.freeC, fun p hp => ?_, tracked ⟨oL, hoL, I.free⟩ hs, by simpa using I.len⟩ ⟨_, hs, .inl rfl⟩
    · exact (hs.2 b (Nat.ne_of_lt (Nat.lt_of_lt_of_le (Heap.lt_size e) I.ok.above))).trans (I.base.keep b o e n hb hx)
    · obtain ⟨sl, e1⟩ := I.base.slot b o e n hb hx
      exact ⟨sl, (hs.2 b (Nat.ne_of_lt (Nat.lt_of_lt_of_le (Heap.lt_size e) I.ok.above))).trans e1⟩
    · obtain ⟨o', e1⟩ := I.base.there b o e hx
      exact ⟨o', (hs.2 b (Nat.ne_of_lt (Nat.lt_of_lt_of_le (Heap.lt_size e) I.ok.above))).trans e1⟩
    · by_cases hj : j = i
      · subst hj
        rw [hi] at e1; cases e1
        rw [List.getElem?_set_self hiσ] at e2
        cases e2
        exact ⟨u, r, .inl ⟨hk, by simp⟩⟩
      · rw [List.getElem?_set_ne (Ne.symm hj)] at e2
        obtain ⟨u', r', q⟩ := hl j y v' e1 e2 e3
        refine ⟨u', r', ?_⟩
        rcases q with ⟨k, e⟩ | ⟨k, c, e, z⟩
        · refine .inl ⟨k, ?_⟩
          have : y ≠ x := fun e => hj (nodup_ix hN e1 (e ▸ hi))
          simp [this, e]
        · exact .inr ⟨k, c, e, z.sameBut hs (cne y c e)⟩
    · obtain ⟨w', z⟩ := I.cell y c e
      exact ⟨w', z.sameBut hs (cne y c e)⟩
    · obtain ⟨e, n, ne, nf, d⟩ := I.pin p hp
      exact ⟨(hs.2 p.1 ne).trans e, n, ne, nf, d⟩
  · have hfn : X.fn x = true := by
      rcases hf with z | z
      · exact z
      · rw [z] at hk; cases hk
    obtain ⟨c, hc⟩ := I.ok.has x (.inl hk)
    obtain ⟨w', z⟩ := I.cell x c hc
    refine wpAny_storeName_cell I.ok.kind hk hc z (fun h' hc' hs => ?_)
    obtain ⟨oc, hoc, hocd⟩ := id z
    refine h { s with heap := h' } ⟨I.ok, I.os, I.bare, ⟨fun b o e n hb hx => ?_, fun b o e n hb hx => ?_, I.base.free, fun b o e hx => ?_, I.base.tups, I.base.frzs, I.base.tbls⟩, ⟨m, hn.sameBut hs (Ne.symm (cne x c hc)), fun j y v' e1 e2 e3 => ?_⟩, fun y c' e => ?_, I.free, I.freeC, fun p hp => ?_, tracked ⟨oc, hoc, I.freeC x c hc⟩ hs, by simpa using I.len⟩ ⟨c, hs, .inr hc⟩
    · exact (hs.2 b (Nat.ne_of_lt (Nat.lt_of_lt_of_le (Heap.lt_size e) (I.ok.cab x c hfn hc)))).trans (I.base.keep b o e n hb hx)
    · obtain ⟨sl, e1⟩ := I.base.slot b o e n hb hx
      exact ⟨sl, (hs.2 b (Nat.ne_of_lt (Nat.lt_of_lt_of_le (Heap.lt_size e) (I.ok.cab x c hfn hc)))).trans e1⟩
    · obtain ⟨o', e1⟩ := I.base.there b o e hx
      exact ⟨o', (hs.2 b (Nat.ne_of_lt (Nat.lt_of_lt_of_le (Heap.lt_size e) (I.ok.cab x c hfn hc)))).trans e1⟩
    · by_cases hj : j = i
      · subst hj
        rw [hi] at e1; cases e1
        rw [List.getElem?_set_self hiσ] at e2
        cases e2
        exact ⟨u, r, .inr ⟨.inl hk, c, hc, hc'⟩⟩
      · rw [List.getElem?_set_ne (Ne.symm hj)] at e2
        obtain ⟨u', r', q⟩ := hl j y v' e1 e2 e3
        refine ⟨u', r', ?_⟩
        rcases q with q | ⟨k, c', e, z'⟩
        · exact .inl q
        · refine .inr ⟨k, c', e, z'.sameBut hs ?_⟩
          rintro rfl
          exact hj (nodup_ix hN e1 (I.ok.inj _ _ _ e hc ▸ hi))
    · by_cases hcc : c' = c
      · subst hcc; exact ⟨_, hc'⟩
      · obtain ⟨w2, z2⟩ := I.cell y c' e
        exact ⟨w2, z2.sameBut hs hcc⟩
    · obtain ⟨e, n, ne, nf, d⟩ := I.pin p hp
      refine ⟨(hs.2 p.1 ?_).trans e, n, ne, nf, d⟩
      intro q
      rw [q, hoc] at e
      have q' : oc = p.2 := Option.some.inj e
      exact d w' (by rw [← q']; exact hocd)
theorem store_ok {M : Model} {A : Around} {E : Value → Shared → Prop} {i : Nat} {x : Str} {v : V} {u : Value} {Q : Unit → Shared → Prop} (I : Inv X pins σ H s) (hN : X.N.Nodup) (hi : X.N[i]? = some x) (hx : Loc X.env.scope x) (r : RelV v u)
    (h : ∀ s', Inv X pins (σ.set i (some v)) H s' → Q () s') (hf : X.fn x = true ∨ X.env.scope.names.lookup x = some .local := by first | exact .inl rfl | exact .inr rfl | assumption) : wpAny M A (storeName X.env x u) Q E s :=
  store_ok2 I hN hi hx r (fun s' I' _ => h s' I') hf
/-- behind a call or a block, the state as it is -/
theorem Inv.call' {s' : Shared} {ch : List Addr} (I : Inv X pins σ H s) (ho : s'.os = s.os) (u : Un (frs X.stack) ch H H' s.heap s'.heap) (hok : HOk X.prog X.w H' s'.heap) (hg : AllBare s'.gens)
    (hch : ∀ b ∈ ch, (b ∈ X.ex ∨ X.s₀.heap.objs.size ≤ b) ∧ b ≠ X.env.locals ∧ (∀ x c, X.env.cells.lookup x = some c → c ≠ b) ∧ ∀ p ∈ X.pn ++ pins, p.1 ≠ b) : Inv X pins σ H' s' := by
  obtain ⟨h', g', d', t', o'⟩ := s'
  have e : o' = s.os := ho
  subst e
  exact I.call (g' := g') (t' := t') (d' := d') u hok hg hch
end

/-! ### the judgements -/
/-- an exception: its class, its own dict's address (where it has one), the abstract heap behind it -/
abbrev XK := Value → Option Addr → Hp → Prop
abbrev St := List (Option V)
abbrev VK := V → Hp → Prop
/-- an expression's reading; a test's; an argument list's -/
abbrev TE := St → Hp → VK → Prop
abbrev TT := St → Hp → (Bool → Hp → Prop) → Prop
abbrev TA := St → Hp → (List V → Hp → Prop) → Prop
/-- what is wanted behind a statement -/
structure Ends where
  nx : St → Hp → Prop
  rt : VK
  bk : St → Hp → Prop := fun _ _ => False
  ct : St → Hp → Prop := fun _ _ => False
abbrev TS := Ends → St → Hp → Prop

def EP (X : Cx) (pins : List (Addr × Obj)) (σ : St) (Q : VK) (u : Value) (s' : Shared) : Prop := ∃ v H', Inv X pins σ H' s' ∧ RelV v u ∧ Q v H'
def TP (X : Cx) (pins : List (Addr × Obj)) (σ : St) (Q : Bool → Hp → Prop) (b : Bool) (s' : Shared) : Prop := ∃ H', Inv X pins σ H' s' ∧ Q b H'
def AP (X : Cx) (pins : List (Addr × Obj)) (σ : St) (Q : List V → Hp → Prop) (us : List Value) (s' : Shared) : Prop := ∃ vs H', Inv X pins σ H' s' ∧ Vals vs us ∧ Q vs H'
def SP (X : Cx) (pins : List (Addr × Obj)) (D : Ends) (f : Flow) (s' : Shared) : Prop :=
  match f with
  | .next => ∃ σ' H', Inv X pins σ' H' s' ∧ D.nx σ' H'
  | .brk => ∃ σ' H', Inv X pins σ' H' s' ∧ D.bk σ' H'
  | .cont => ∃ σ' H', Inv X pins σ' H' s' ∧ D.ct σ' H'
  | .ret u => ∃ v σ' H', Inv X pins σ' H' s' ∧ RelV v u ∧ D.rt v H'

def PE (X : Cx) (e : Expr) (t : TE) : Prop :=
  ∀ (pins : List (Addr × Obj)) (s : Shared) (σ : St) (H : Hp) (Q : VK), Inv X pins σ H s → t σ H Q → wpAny (model X.prog X.w) X.A (eval e X.env) (EP X pins σ Q) X.xe s
def PT (X : Cx) (e : Expr) (t : TT) : Prop :=
  ∀ (pins : List (Addr × Obj)) (s : Shared) (σ : St) (H : Hp) (Q : Bool → Hp → Prop), Inv X pins σ H s → t σ H Q → wpAny (model X.prog X.w) X.A (isTrue e X.env (eval e X.env)) (TP X pins σ Q) X.xe s
/-- a test whatever its 'whole' is (and, or) -/
def PW (X : Cx) (e : Expr) (t : TT) : Prop :=
  ∀ (whole : Sem Value) (pins : List (Addr × Obj)) (s : Shared) (σ : St) (H : Hp) (Q : Bool → Hp → Prop), Inv X pins σ H s → t σ H Q → wpAny (model X.prog X.w) X.A (isTrue e X.env whole) (TP X pins σ Q) X.xe s
theorem PW.pt {X : Cx} {e : Expr} {t : TT} (h : PW X e t) : PT X e t := h _
/-- an argument list (no star), from the left -/
def PA (X : Cx) (es : List Expr) (t : TA) : Prop :=
  ∀ (pos : Pos) (pins : List (Addr × Obj)) (s : Shared) (σ : St) (H : Hp) (Q : List V → Hp → Prop), Inv X pins σ H s → t σ H Q → wpAny (model X.prog X.w) X.A (spliced (backTo pos (starEach es X.env))) (AP X pins σ Q) X.xe s
def PS (X : Cx) (st : Stmt) (t : TS) : Prop :=
  ∀ (pins : List (Addr × Obj)) (s : Shared) (σ : St) (H : Hp) (D : Ends), Inv X pins σ H s → t D σ H → wpAny (model X.prog X.w) X.A (exec st X.env) (SP X pins D) X.xe s
def PSs (X : Cx) (st : List Stmt) (t : TS) : Prop :=
  ∀ (pins : List (Addr × Obj)) (s : Shared) (σ : St) (H : Hp) (D : Ends), Inv X pins σ H s → t D σ H → wpAny (model X.prog X.w) X.A (execs st X.env) (SP X pins D) X.xe s
/-- weaken the end -/
theorem thn {α : Type} {t : Sem α} {Q Q' : α → Shared → Prop} {M : Model} {A : Around} {E : Value → Shared → Prop} {s : Shared} (h : wpAny M A t Q E s) (hQ : ∀ a s, Q a s → Q' a s) : wpAny M A t Q' E s := wpAny_mono h hQ fun _ _ x => x
end L2

namespace L2
open PySem PySem.Spec PyProof.Rows
section
variable {X : Cx}

/-! ### names and constants -/
def tVar (i : Nat) : TE := fun σ H Q => ∃ v, σ[i]? = some (some v) ∧ Q v H
def tC (v : V) : TE := fun _ H Q => Q v H
theorem pe_var {i : Nat} {x : Str} {pos : Pos} (hN : X.N[i]? = some x) (hv : Vis X.env.scope x) (hd : (x == ("__debug__" : Str)) = false := by decide) (hcd : (x == ("__classdict__" : Str)) = false := by decide) : PE X (.Name x pos) (tVar i) := by
  intro pins s σ H Q I h
  obtain ⟨v, e, h⟩ := h
  obtain ⟨m, hn, hl⟩ := I.loc
  obtain ⟨u, r, l⟩ := hl i x v hN e hv
  have fin : EP X pins σ Q u s := ⟨v, H, I, r, h⟩
  rcases l with ⟨hk, hm⟩ | ⟨hk, c, hc, hcell⟩
  · exact wpAny_Name (wpAny_loadName_local I.ok.kind hk hn hm fin) hd
  · rcases hk with hk | hk
    · exact wpAny_Name (wpAny_loadName_cell I.ok.kind hk hc hcell fin) hd
    · exact wpAny_Name (wpAny_loadName_free I.ok.kind hk hc hcell fin hcd) hd
theorem pe_int {i j pos} : PE X (.Constant (.int i) j pos) (tC (.int i)) := fun _ _ _ H _ I h => wpAny_Constant_int ⟨.int i, H, I.tok _, ⟨_, rfl⟩, h⟩
theorem pe_bl {b j pos} : PE X (.Constant (.bool b) j pos) (tC (.bl b)) := fun _ _ _ H _ I h => Constant_bool ⟨.bl b, H, I, rfl, h⟩
theorem pe_non {j pos} : PE X (.Constant .none j pos) (tC .non) := fun _ _ _ H _ I h => Constant_none ⟨.non, H, I, rfl, h⟩
theorem pe_str {x j pos} : PE X (.Constant (.str x) j pos) (tC (.str x)) := fun _ _ _ H _ I h => Calls.Constant_str ⟨.str x, H, I.tok _, ⟨_, rfl⟩, h⟩

/-- a global name of the def -/
def Gl (X : Cx) (x : Str) : Prop := X.env.kindOf x = some .globalImplicit
theorem ld_glob {E : Value → Shared → Prop} {pins : List (Addr × Obj)} {s : Shared} {σ : St} {H : Hp} {x : Str} {u : Value} {pos : Pos} {Q : Value → Shared → Prop} (I : Inv X pins σ H s) (hg : Gl X x) (hm : X.mg x = some u) (h : Q u s)
    (hd : (x == ("__debug__" : Str)) = false := by decide) : wpAny (model X.prog X.w) X.A (eval (.Name x pos) X.env) Q E s :=
  Calls.Name_function_global I.ok.kind hg (Calls.loadGlobal_global (by rw [I.ok.glob]; exact I.mod.glob.keeps I.bk) hm h) hd
theorem ld_blt {E : Value → Shared → Prop} {pins : List (Addr × Obj)} {s : Shared} {σ : St} {H : Hp} {x : Str} {u : Value} {pos : Pos} {Q : Value → Shared → Prop} (I : Inv X pins σ H s) (hg : Gl X x) (hm : X.mg x = none) (hv : bootBuiltins x = some u) (h : Q u s)
    (hn : x ≠ "__name__" := by decide) (hd : (x == ("__debug__" : Str)) = false := by decide) : wpAny (model X.prog X.w) X.A (eval (.Name x pos) X.env) Q E s := by
  obtain ⟨mb, h1, h2⟩ := I.mod.blt
  exact Calls.Name_function_global I.ok.kind hg (Calls.loadGlobal_builtin (by rw [I.ok.glob]; exact I.mod.glob.keeps I.bk) hm (by rw [I.ok.blt]; exact h1.keeps I.bk) ((h2 x hn).trans hv) h) hd
/-- a module's constant, a class, a function, as a value -/
theorem pe_glob {x : Str} {v : V} {u : Value} {pos : Pos} (hg : Gl X x) (hm : X.mg x = some u) (r : RelV v u) (hd : (x == ("__debug__" : Str)) = false := by decide) : PE X (.Name x pos) (tC v) :=
  fun _ _ _ H _ I h => ld_glob I hg hm ⟨v, H, I, r, h⟩ hd
theorem pe_bltn {x : Str} {v : V} {u : Value} {pos : Pos} (hg : Gl X x) (hm : X.mg x = none) (hv : bootBuiltins x = some u) (r : RelV v u) (hn : x ≠ "__name__" := by decide) (hd : (x == ("__debug__" : Str)) = false := by decide) : PE X (.Name x pos) (tC v) :=
  fun _ _ _ H _ I h => ld_blt I hg hm hv ⟨v, H, I, r, h⟩ hn hd

/-! ### arithmetic -/
variable {a b : Expr} {ta tb : TE} {pos : Pos}
/-! ### comparisons -/
/-- a comparison as a value, as a test -/
def tB (t : TE) : TT := fun σ H Q => t σ H fun x H1 => ∃ c, x = .bl c ∧ Q c H1
/-- an expression whose value is a bool, as a test -/
theorem pt_val {e : Expr} {t : TE} (h : PE X e t) (he : ∀ whole, isTrue e X.env whole = (do let v ← whole; standAt e.pos; holding [v] (truthy v)) := by intro _; rfl) : PT X e (tB t) := by
  intro pins s σ H Q I hw
  refine isTrue_plain (thn (h pins s σ H _ I hw) fun v s1 ⟨x, H1, I1, r1, q1⟩ => ?_) (he _)
  obtain ⟨d, rfl, q⟩ := q1
  cases r1
  exact wpAny_truthy_bool ⟨H1, I1, q⟩

/-! ### and, or, not -/
variable {tA tB' : TT} {rest : List Expr}
def tAnd (t u : TT) : TT := fun σ H Q => t σ H fun c H1 => if c = true then u σ H1 Q else Q false H1
def tOr (t u : TT) : TT := fun σ H Q => t σ H fun c H1 => if c = true then Q true H1 else u σ H1 Q
def tNot (t : TT) : TT := fun σ H Q => t σ H fun c H1 => Q (!c) H1
theorem pw_and1 (ha : PT X a tA) : PW X (.BoolOp .And [a] pos) tA := by
  intro wh pins s σ H Q I h
  refine isTrue_and (thn (ha pins s σ H Q I h) fun c s1 e => ?_)
  cases c with
  | true => exact isTrue_and_nil e
  | false => exact e
theorem pw_or1 (ha : PT X a tA) : PW X (.BoolOp .Or [a] pos) tA := by
  intro wh pins s σ H Q I h
  refine isTrue_or (thn (ha pins s σ H Q I h) fun c s1 e => ?_)
  cases c with
  | false => exact isTrue_or_nil e
  | true => exact e
theorem pw_and (ha : PT X a tA) (hb : PW X (.BoolOp .And (b :: rest) pos) tB') : PW X (.BoolOp .And (a :: b :: rest) pos) (tAnd tA tB') := by
  intro wh pins s σ H Q I h
  refine isTrue_and (thn (ha pins s σ H _ I h) fun c s1 ⟨H1, I1, q1⟩ => ?_)
  cases c with
  | true => exact hb wh pins s1 σ H1 Q I1 q1
  | false => exact ⟨H1, I1, q1⟩
theorem pw_or (ha : PT X a tA) (hb : PW X (.BoolOp .Or (b :: rest) pos) tB') : PW X (.BoolOp .Or (a :: b :: rest) pos) (tOr tA tB') := by
  intro wh pins s σ H Q I h
  refine isTrue_or (thn (ha pins s σ H _ I h) fun c s1 ⟨H1, I1, q1⟩ => ?_)
  cases c with
  | true => exact ⟨H1, I1, q1⟩
  | false => exact hb wh pins s1 σ H1 Q I1 q1
theorem pt_not (ha : PT X a tA) : PT X (.UnaryOp .Not a pos) (tNot tA) := by
  intro pins s σ H Q I h
  exact isTrue_not (ha pins s σ H (fun c H1 => Q (!c) H1) I h)
/-- .. as values (bools) -/
def tAndV (ta tb : TE) : TE := fun σ H Q => ta σ H fun x H1 => ∃ c, x = .bl c ∧ if c = true then tb σ H1 Q else Q (.bl false) H1
def tNotV (ta : TE) : TE := fun σ H Q => ta σ H fun x H1 => ∃ c, x = .bl c ∧ Q (.bl (!c)) H1
theorem pe_one {op} {t : TE} (h : PE X a t) : PE X (.BoolOp op [a] pos) t := fun pins s σ H Q I hw => BoolOp_one (h pins s σ H Q I hw)
theorem pe_and (ha : PE X a ta) (hb : PE X (.BoolOp .And (b :: rest) pos) tb) : PE X (.BoolOp .And (a :: b :: rest) pos) (tAndV ta tb) := by
  intro pins s σ H Q I h
  refine BoolOp_and (thn (ha pins s σ H _ I h) fun v s1 ⟨x, H1, I1, r1, q1⟩ => ?_)
  obtain ⟨c, rfl, q1⟩ := q1
  cases r1
  refine wpAny_truthy_bool ?_
  cases c with
  | true => exact hb pins s1 σ H1 Q I1 q1
  | false => exact ⟨.bl false, H1, I1, rfl, q1⟩
theorem pe_not (ha : PE X a ta) : PE X (.UnaryOp .Not a pos) (tNotV ta) := by
  intro pins s σ H Q I h
  refine UnaryOp_ (thn (ha pins s σ H _ I h) fun v s1 ⟨x, H1, I1, r1, q1⟩ => ?_)
  obtain ⟨c, rfl, q1⟩ := q1
  cases r1
  exact not_of (wpAny_truthy_bool ⟨.bl (!c), H1, I1, rfl, q1⟩)
/-- a if t else b -/
def tIf (t : TT) (ta tb : TE) : TE := fun σ H Q => t σ H fun c H1 => if c = true then ta σ H1 Q else tb σ H1 Q
theorem pe_ifExp {c : Expr} (hc : PT X c tA) (ha : PE X a ta) (hb : PE X b tb) : PE X (.IfExp c a b pos) (tIf tA ta tb) := by
  intro pins s σ H Q I h
  refine wpAny_IfExp (thn (hc pins s σ H _ I h) fun d s1 ⟨H1, I1, q1⟩ => ?_)
  cases d with
  | true => exact ha pins s1 σ H1 Q I1 q1
  | false => exact hb pins s1 σ H1 Q I1 q1
end
end L2

namespace L2
open PySem PySem.Spec PyProof.Rows

/-! ### a list, a tuple that is read: tracked, frozen, or an object of the module -/
def SqL (K : PySem.W.Frag) (H : Hp) (a : Addr) (xs : List V) : Prop :=
  Rd H a (.lst xs) ∨
    ∃ (o : Obj) (its : Array Value) (n : Nat), K.lookup a = some o ∧ o.cls = .type "list" ∧ o.dict = none ∧ o.data = .seq its n ∧ its.size ≤ sizeLine ∧ Vals xs its.toList
def SqT (K : PySem.W.Frag) (H : Hp) (a : Addr) (xs : List V) : Prop :=
  Rd H a (.tup xs) ∨
    ∃ (o : Obj) (its : Array Value) (n : Nat), K.lookup a = some o ∧ o.cls = .type "tuple" ∧ o.data = .seq its n ∧ its.size ≤ sizeLine ∧ Vals xs its.toList
def absV : Value → Option V
  | .none => some .non
  | .bool b => some (.bl b)
  | .int i _ => some (.int i)
  | .str x _ => some (.str x)
  | .bytes b _ => some (.byt b)
  | .float b _ => some (.flt b)
  | .ref a => some (.ref a)
  | .type n => some (.ty n)
  | _ => none
theorem RelV.abs {x : V} {u : Value} (r : RelV x u) : absV u = some x := by
  cases x with
  | non => cases r; rfl
  | bl _ => cases r; rfl
  | int _ => obtain ⟨t, rfl⟩ := r; rfl
  | str _ => obtain ⟨t, rfl⟩ := r; rfl
  | byt _ => obtain ⟨t, rfl⟩ := r; rfl
  | flt _ => obtain ⟨t, rfl⟩ := r; rfl
  | ref _ => cases r; rfl
  | ty _ => cases r; rfl
theorem RelV.inj {x y : V} {u : Value} (r : RelV x u) (q : RelV y u) : x = y := Option.some.inj (r.abs.symm.trans q.abs)
theorem Vals.inj : ∀ {xs ys : List V} {us : List Value}, Vals xs us → Vals ys us → xs = ys
  | _, _, _, .nil, .nil => rfl
  | _, _, _, .cons r t, .cons r' t' => by rw [r.inj r', Vals.inj t t']
section
variable {X : Cx} {pins : List (Addr × Obj)} {σ : St} {H : Hp} {s : Shared} {a : Addr} {xs ys : List V}
theorem SqL.of {K : PySem.W.Frag} (h : H a = some (.lst xs)) : SqL K H a xs := .inl (.inl h)
theorem SqT.of {K : PySem.W.Frag} (h : H a = some (.tup xs)) : SqT K H a xs := .inl (.inl h)
theorem Inv.list (I : Inv X pins σ H s) (h : SqL X.K H a xs) : ∃ its : List Value, Vals xs its ∧ PlainL s.heap a its.toArray ∧ xs.length ≤ sizeLine := by
  rcases h with h | ⟨o, its, n, hk, hc, hd, hs, hz, r⟩
  · obtain ⟨z, its, n, r, e⟩ := h.ok I.hok
    exact ⟨its, r, ⟨_, n, e, rfl, rfl, rfl⟩, z⟩
  · refine ⟨its.toList, r, ⟨o, n, I.kIn a o hk, hc, hd, by simpa using hs⟩, ?_⟩
    have e := r.length
    simp only [Array.length_toList] at e
    omega
theorem Inv.tuple (I : Inv X pins σ H s) (h : SqT X.K H a xs) : ∃ its : List Value, Vals xs its ∧ IsTup s.heap a its.toArray ∧ xs.length ≤ sizeLine := by
  rcases h with h | ⟨o, its, n, hk, hc, hs, hz, r⟩
  · obtain ⟨z, its, r, p⟩ := h.ok I.hok
    exact ⟨its, r, p, z⟩
  · refine ⟨its.toList, r, ⟨o, I.kIn a o hk, hc, n, by simpa using hs⟩, ?_⟩
    have e := r.length
    simp only [Array.length_toList] at e
    omega
theorem Inv.list_inj (I : Inv X pins σ H s) (h : SqL X.K H a xs) (h' : SqL X.K H a ys) : xs = ys := by
  obtain ⟨its, r, ⟨o, n, e, _, _, d⟩, _⟩ := I.list h
  obtain ⟨its', r', ⟨o', n', e', _, _, d'⟩, _⟩ := I.list h'
  rw [e] at e'; cases e'
  rw [d] at d'
  injection d' with d1 _
  have : its = its' := by simpa using congrArg Array.toList d1
  subst this
  exact r.inj r'
theorem Inv.tuple_inj (I : Inv X pins σ H s) (h : SqT X.K H a xs) (h' : SqT X.K H a ys) : xs = ys := by
  obtain ⟨its, r, ⟨o, e, _, n, d⟩, _⟩ := I.tuple h
  obtain ⟨its', r', ⟨o', e', _, n', d'⟩, _⟩ := I.tuple h'
  rw [e] at e'; cases e'
  rw [d] at d'
  injection d' with d1 _
  have : its = its' := by simpa using congrArg Array.toList d1
  subst this
  exact r.inj r'
end

/-! ### another wish about exceptions -/
abbrev Cx.wish (X : Cx) (E : Value → Shared → Prop) : Cx := { X with xe := E }
/-- no exception leaves -/
abbrev Cx.nox (X : Cx) : Cx := X.wish fun _ _ => False
theorem Cx.Ok.wish {X : Cx} (ok : X.Ok) (E : Value → Shared → Prop) : (X.wish E).Ok :=
  ⟨ok.mod, ok.kind, ok.glob, ok.blt, ok.above, ok.inj, ok.has, ok.cab, ok.hd, ok.frames, ok.stk, ok.exf, ok.bs, ok.bsz, ok.noex, ok.exfs, ok.funs, ok.frf⟩
theorem Cx.Ok.unwish {X : Cx} {E : Value → Shared → Prop} (ok : (X.wish E).Ok) : X.Ok :=
  ⟨ok.mod, ok.kind, ok.glob, ok.blt, ok.above, ok.inj, ok.has, ok.cab, ok.hd, ok.frames, ok.stk, ok.exf, ok.bs, ok.bsz, ok.noex, ok.exfs, ok.funs, ok.frf⟩
section
variable {X : Cx} {pins : List (Addr × Obj)} {σ : St} {H : Hp} {s : Shared} {E : Value → Shared → Prop}
theorem Inv.wish (I : Inv X pins σ H s) (E : Value → Shared → Prop) : Inv (X.wish E) pins σ H s := ⟨I.ok.wish E, I.os, I.bare, I.base, I.loc, I.cell, I.free, I.freeC, I.pin, I.hok, I.len⟩
theorem Inv.unwish (I : Inv (X.wish E) pins σ H s) : Inv X pins σ H s := ⟨I.ok.unwish, I.os, I.bare, I.base, I.loc, I.cell, I.free, I.freeC, I.pin, I.hok, I.len⟩
theorem SP.unwish {D : Ends} {f : Flow} {s' : Shared} (h : SP (X.wish E) pins D f s') : SP X pins D f s' := by
  cases f with
  | next => obtain ⟨σ', H', I, q⟩ := h; exact ⟨σ', H', I.unwish, q⟩
  | brk => obtain ⟨σ', H', I, q⟩ := h; exact ⟨σ', H', I.unwish, q⟩
  | cont => obtain ⟨σ', H', I, q⟩ := h; exact ⟨σ', H', I.unwish, q⟩
  | ret u => obtain ⟨v, σ', H', I, r, q⟩ := h; exact ⟨v, σ', H', I.unwish, r, q⟩
theorem PSs.nox {st : List Stmt} {t : TS} (h : PSs X.nox st t) : PSs X st t := fun pins s σ H D I hw =>
  wpAny_mono (h pins s σ H D (I.wish _) hw) (fun _ _ q => q.unwish) fun _ _ z => False.elim z
end

/-! ### blocks and small statements -/
section
variable {X : Cx} {st : Stmt} {rest : List Stmt} {t u : TS} {e : Expr} {te : TE} {pos : Pos}
def tNext : TS := fun D σ H => D.nx σ H
def tSeq (t u : TS) : TS := fun D σ H => t { D with nx := u D } σ H
theorem pss_nil : PSs X [] tNext := fun _ _ σ H _ I h => wpAny_execs_nil ⟨σ, H, I, h⟩
theorem pss_cons (h1 : PS X st t) (h2 : PSs X rest u) : PSs X (st :: rest) (tSeq t u) := by
  intro pins s σ H D I h
  refine wpAny_execs_cons (thn (h1 pins s σ H { D with nx := u D } I h) fun f s1 q => ?_)
  cases f with
  | next =>
    obtain ⟨σ', H', I', q⟩ := q
    exact h2 pins s1 σ' H' D I' q
  | ret v => exact q
  | brk => exact q
  | cont => exact q
theorem pss_one (h1 : PS X st t) : PSs X [st] t := by
  intro pins s σ H D I h
  refine wpAny_execs_cons (thn (h1 pins s σ H D I h) fun f s1 q => ?_)
  cases f with
  | next => exact wpAny_execs_nil q
  | ret v => exact q
  | brk => exact q
  | cont => exact q
/-- in a def's body nothing is shown -/
theorem Inv.quiet {pins : List (Addr × Obj)} {σ : St} {H : Hp} {s : Shared} (I : Inv X pins σ H s) : interactive X.env = false := by simp [interactive, I.ok.kind]
/-- an expression whose value is dropped -/
def tDrop (te : TE) : TS := fun D σ H => te σ H fun _ H1 => D.nx σ H1
theorem ps_expr (he : PE X e te) (hs : swapsWith e none pos.line X.env = pure false := by rfl) : PS X (.Expr e pos) (tDrop te) := by
  intro pins s σ H D I h
  exact wpAny_Expr_any (thn (he pins s σ H _ I h) fun v s1 ⟨x, H1, I1, r1, q1⟩ => ⟨σ, H1, I1, q1⟩) I.quiet hs
def tRet (te : TE) : TS := fun D σ H => te σ H D.rt
theorem ps_ret (he : PE X e te) : PS X (.Return (some e) pos) (tRet te) := by
  intro pins s σ H D I h
  exact wpAny_Return_some (thn (he pins s σ H _ I h) fun v s1 ⟨x, H1, I1, r1, q1⟩ => ⟨x, σ, H1, I1, r1, q1⟩)
def tIfS (c : TT) (t u : TS) : TS := fun D σ H => c σ H fun b H1 => if b = true then t D σ H1 else u D σ H1
theorem ps_if {c : Expr} {a b : List Stmt} {tc : TT} (hc : PT X c tc) (ha : PSs X a t) (hb : PSs X b u) : PS X (.If c a b pos) (tIfS tc t u) := by
  intro pins s σ H D I h
  refine wpAny_If (thn (hc pins s σ H _ I h) fun d s1 ⟨H1, I1, q1⟩ => ?_)
  cases d with
  | true => exact ha pins s1 σ H1 D I1 q1
  | false => exact hb pins s1 σ H1 D I1 q1
/-- code that the proof never comes to -/
def tNever : TS := fun _ _ _ => False
theorem ps_never : PS X st tNever := fun _ _ _ _ _ _ h => h.elim
theorem pss_never {sts : List Stmt} : PSs X sts tNever := fun _ _ _ _ _ _ h => h.elim
end

/-! ### targets -/
abbrev TG := V → St → Hp → (St → Hp → Prop) → Prop
abbrev TGs := List V → St → Hp → (St → Hp → Prop) → Prop
def PG (X : Cx) (target : Expr) (t : TG) : Prop :=
  ∀ (pins : List (Addr × Obj)) (s : Shared) (σ : St) (H : Hp) (v : V) (u : Value) (Q : St → Hp → Prop), Inv X pins σ H s → RelV v u → t v σ H Q →
    wpAny (model X.prog X.w) X.A (assign target X.env u) (fun _ s' => ∃ σ' H', Inv X pins σ' H' s' ∧ Q σ' H') X.xe s
/-- several targets, one after another -/
def PGs (X : Cx) (ts : List Expr) (t : TGs) : Prop :=
  ∀ (pins : List (Addr × Obj)) (s : Shared) (σ : St) (H : Hp) (vs : List V) (us : List Value) (Q : St → Hp → Prop), Inv X pins σ H s → Vals vs us → t vs σ H Q →
    wpAny (model X.prog X.w) X.A (assignInOrder ((assignEach ts X.env).map (·.2)) us) (fun _ s' => ∃ σ' H', Inv X pins σ' H' s' ∧ Q σ' H') X.xe s
/-- o[i] = v, by values -/
abbrev TSet := V → V → V → Hp → (Hp → Prop) → Prop
def PSet (X : Cx) (t : TSet) : Prop :=
  ∀ (pins : List (Addr × Obj)) (s : Shared) (σ : St) (H : Hp) (o i v : V) (ov iv u : Value) (Q : Hp → Prop), Inv X pins σ H s → RelV o ov → RelV i iv → RelV v u → t o i v H Q →
    wpAny (model X.prog X.w) X.A (setItem ov iv u) (fun _ s' => ∃ H', Inv X pins σ H' s' ∧ Q H') X.xe s
/-- a op= b, by values -/
abbrev TIp := V → V → Hp → VK → Prop
def PIp (X : Cx) (op : Operator) (t : TIp) : Prop :=
  ∀ (pins : List (Addr × Obj)) (s : Shared) (σ : St) (H : Hp) (x y : V) (v u : Value) (Q : VK), Inv X pins σ H s → RelV x v → RelV y u → t x y H Q →
    wpAny (model X.prog X.w) X.A (inplaceOp op v u) (EP X pins σ Q) X.xe s
section
variable {X : Cx} {pos : Pos}
def gName (i : Nat) : TG := fun v σ H Q => Q (σ.set i (some v)) H
theorem pg_name {i : Nat} {x : Str} (hN : X.N.Nodup) (hi : X.N[i]? = some x) (hx : Loc X.env.scope x) (hf : X.fn x = true ∨ X.env.scope.names.lookup x = some .local := by first | exact .inl rfl | exact .inr rfl | assumption) : PG X (.Name x pos) (gName i) := by
  intro pins s σ H v u Q I r h
  exact wpAny_assign_Name (store_ok I hN hi hx r (fun s' I' => ⟨_, H, I', h⟩) hf)
def gNil : TGs := fun vs σ H Q => vs = [] ∧ Q σ H
def gCons (t : TG) (u : TGs) : TGs := fun vs σ H Q => ∃ v r, vs = v :: r ∧ t v σ H fun σ' H' => u r σ' H' Q
theorem pgs_nil : PGs X [] gNil := by
  intro pins s σ H vs us Q I r h
  obtain ⟨e, h⟩ := h
  subst e
  cases r
  exact assignInOrder_nil ⟨σ, H, I, h⟩
theorem pgs_cons {e : Expr} {es : List Expr} {t : TG} {u : TGs} (h1 : PG X e t) (h2 : PGs X es u)
    (hs : (assignEach (e :: es) X.env).map (·.2) = assign e X.env :: (assignEach es X.env).map (·.2) := by rfl) : PGs X (e :: es) (gCons t u) := by
  intro pins s σ H vs us Q I r h
  obtain ⟨v, vr, e1, h⟩ := h
  subst e1
  cases r with
  | cons r rr =>
    rw [hs]
    refine assignInOrder_cons (thn (h1 pins s σ H _ _ _ I r h) fun _ s1 ⟨σ1, H1, I1, q1⟩ => ?_)
    exact h2 pins s1 σ1 H1 _ _ Q I1 rr q1
/-- (a, b, ..) = a tuple of that length -/
def gTup (K : PySem.W.Frag) (n : Nat) (t : TGs) : TG := fun v σ H Q => ∃ a xs, v = .ref a ∧ SqT K H a xs ∧ xs.length = n ∧ t xs σ H Q
theorem pg_tup {es : List Expr} {k : Nat} {t : TGs} {n : Nat} (hc : X.calm = true) (h : PGs X es t)
    (hn : (assignEach es X.env).length = n := by rfl) (hst : (assignEach es X.env).findIdx? (·.1) = none := by rfl) : PG X (.Tuple es k pos) (gTup X.K n t) := by
  intro pins s σ H v u Q I r hw
  obtain ⟨a, xs, e1, hq, hl, hw⟩ := hw
  subst e1
  cases r
  obtain ⟨its, rv, ht, hz⟩ := I.tuple hq
  refine assign_Tuple_tuple (I.ok.hd hc) ht (by simp [hn, ← hl, rv.length]) hst fun h' hx => ?_
  have I1 : Inv X pins σ H { s with heap := h' } := I.kept (t' := s.toks) fun b o e => hx b o (Nat.ne_of_lt (Heap.lt_size e)) e
  exact h pins _ σ H xs _ Q I1 (by simpa using rv) hw
/-- o[i] = .. -/
def gSub (to ti : TE) (t : TSet) : TG := fun v σ H Q => to σ H fun o H1 => ti σ H1 fun i H2 => t o i v H2 fun H3 => Q σ H3
theorem pg_sub {o i : Expr} {to ti : TE} {t : TSet} (ho : PE X o to) (hi : PE X i ti) (hs : PSet X t)
    (ha : ∀ v, assign (.Subscript o i pos) X.env v = (do
      let ov ← holding [v] (eval o X.env)
      let iv ← holding [v, ov] (eval i X.env)
      standAt pos
      holding [v, ov, iv] (setItem ov iv v)
      release [v, ov, iv] []) := by intro _; rfl) : PG X (.Subscript o i pos) (gSub to ti t) := by
  intro pins s σ H v u Q I r h
  rw [ha]
  refine wpAny_bind (wpAny_holding (thn (ho pins s σ H _ I h) fun ov s1 ⟨x, H1, I1, r1, q1⟩ => ?_))
  refine wpAny_bind (wpAny_holding (thn (hi pins s1 σ H1 _ I1 q1) fun iv s2 ⟨y, H2, I2, r2, q2⟩ => ?_))
  refine wpAny_bind (wpAny_standAt (wpAny_bind (wpAny_holding (thn (hs pins s2 σ H2 x y v ov iv u _ I2 r1 r2 r q2) fun _ s3 ⟨H3, I3, q3⟩ => ?_))))
  exact wpAny_release ⟨σ, H3, I3, q3⟩
/-- target = value -/
def tAsg (te : TE) (g : TG) : TS := fun D σ H => te σ H fun x H1 => g x σ H1 D.nx
theorem ps_asg {tg e : Expr} {te : TE} {g : TG} (he : PE X e te) (hg : PG X tg g) (hs : swapsWithSole [tg] e pos.line X.env = pure false := by rfl) (hw : swappedStores [tg] e X.env = pure none := by rfl)
    (h1 : (assignEach [tg] X.env).map (·.2) = [assign tg X.env] := by rfl) : PS X (.Assign [tg] e pos) (tAsg te g) := by
  intro pins s σ H D I h
  refine wpAny_Assign_stores (thn (he pins s σ H _ I h) fun v s1 ⟨x, H1, I1, r1, q1⟩ => ?_) hs hw
  rw [h1]
  exact thn (hg pins s1 σ H1 x v _ I1 r1 q1) fun _ s2 q => q
/-- name = value -/
theorem ps_set {i : Nat} {x : Str} {e : Expr} {te : TE} {pos' : Pos} (hN : X.N.Nodup) (hi : X.N[i]? = some x) (hx : Loc X.env.scope x) (he : PE X e te) (hs : swapsWith e (some (.Name x pos')) pos.line X.env = pure false := by rfl) (hf : X.fn x = true ∨ X.env.scope.names.lookup x = some .local := by first | exact .inl rfl | exact .inr rfl | assumption) :
    PS X (.Assign [.Name x pos'] e pos) (tAsg te (gName i)) := by
  intro pins s σ H D I h
  refine wpAny_Assign_Name (thn (he pins s σ H _ I h) fun v s1 ⟨y, H1, I1, r1, q1⟩ => ?_) hs
  exact store_ok I1 hN hi hx r1 (fun s2 I2 => ⟨_, H1, I2, q1⟩) hf
/-- name op= e -/
def tAug (i : Nat) (te : TE) (ti : TIp) : TS := fun D σ H => ∃ x, σ[i]? = some (some x) ∧ te σ H fun y H1 => ti x y H1 fun z H2 => D.nx (σ.set i (some z)) H2
theorem ps_aug {i : Nat} {x : Str} {e : Expr} {te : TE} {op : Operator} {ti : TIp} {pos' : Pos} (hN : X.N.Nodup) (hi : X.N[i]? = some x) (hx : Loc X.env.scope x) (he : PE X e te) (ho : PIp X op ti) (hf : X.fn x = true ∨ X.env.scope.names.lookup x = some .local := by first | exact .inl rfl | exact .inr rfl | assumption) :
    PS X (.AugAssign (.Name x pos') op e pos) (tAug i te ti) := by
  intro pins s σ H D I h
  obtain ⟨v, e1, h⟩ := h
  obtain ⟨m, hn, hl⟩ := I.loc
  have vis : Vis X.env.scope x := by rcases hx with k | k; exact .inl k; exact .inr (.inl k)
  obtain ⟨u, r, l⟩ := hl i x v hi e1 vis
  refine wpAny_AugAssign_Name ?_
  have go : wpAny (model X.prog X.w) X.A (eval e X.env) (fun w s₂ => wpAny (model X.prog X.w) X.A (inplaceOp op u w) (fun r s₃ => wpAny (model X.prog X.w) X.A (storeName X.env x r) (fun _ => SP X pins D .next) X.xe s₃) X.xe s₂) X.xe s := by
    refine thn (he pins s σ H _ I h) fun w s1 ⟨y, H1, I1, r1, q1⟩ => ?_
    refine thn (ho pins s1 σ H1 v y u w _ I1 r r1 q1) fun z s2 ⟨zv, H2, I2, r2, q2⟩ => ?_
    exact store_ok I2 hN hi hx r2 (fun s3 I3 => ⟨_, H2, I3, q2⟩) hf
  rcases l with ⟨hk, hm⟩ | ⟨hk, c, hc, hcell⟩
  · exact wpAny_loadName_local I.ok.kind hk hn hm go
  · rcases hk with hk | hk
    · exact wpAny_loadName_cell I.ok.kind hk hc hcell go
    · rcases hx with k | k
      · have : X.env.scope.names.lookup x = some .free := hk
        rw [k] at this; cases this
      · have : X.env.scope.names.lookup x = some .free := hk
        rw [k] at this; cases this
/-- ints -/
def ipI (f : Int → Int → Int) : TIp := fun x y H Q => ∃ i j, x = .int i ∧ y = .int j ∧ Q (.int (f i j)) H
theorem ip_add : PIp X .Add (ipI fun i j => i + j) := by
  intro pins s σ H x y v u Q I r1 r2 h
  obtain ⟨i, j, e1, e2, q⟩ := h
  subst e1; subst e2
  obtain ⟨t, rfl⟩ := r1
  obtain ⟨t', rfl⟩ := r2
  exact iadd_int ⟨.int _, H, I.tok _, ⟨_, rfl⟩, q⟩
end

/-! ### while -/
section
variable {X : Cx} {pos : Pos}
/-- the invariant W with its measure -/
def tWhile (c : TT) (tb : TS) : TS := fun D σ H => ∃ W : Nat → St → Hp → Prop, (∃ m, W m σ H) ∧ ∀ m σ H, W m σ H →
  c σ H fun b H1 => if b = true then ∃ N : St → Hp → Prop, (∀ σ' H', N σ' H' → ∃ m', m' < m ∧ W m' σ' H') ∧ tb { D with nx := N, ct := N, bk := D.nx } σ H1 else D.nx σ H1
theorem ps_while {c : Expr} {body : List Stmt} {tc : TT} {tb : TS} (hp : PassesOwn (model X.prog X.w) X.A X.env X.xe) (hc : PT X c tc) (hb : PSs X body tb) : PS X (.While c body [] pos) (tWhile tc tb) := by
  intro pins s σ H D I h
  obtain ⟨W, ⟨m0, w0⟩, turn⟩ := h
  refine wpAny_While (codeAny_whileLoop (fun n s' => ∃ σ' H', Inv X pins σ' H' s' ∧ W n σ' H') ?_ m0 ⟨σ, H, I, w0⟩)
  rintro n s1 ⟨σ1, H1, I1, w1⟩
  refine wpAny_passesOwn hp (thn (hc pins s1 σ1 H1 _ I1 (turn n σ1 H1 w1)) fun b s2 ⟨H2, I2, q2⟩ => ?_)
  cases b with
  | true =>
    obtain ⟨N, hN, q2⟩ := q2
    rw [if_pos rfl]
    refine wpAny_passesOwn hp (thn (hb pins s2 σ1 H2 _ I2 q2) fun f s3 q3 => ?_)
    cases f with
    | next =>
      obtain ⟨σ3, H3, I3, n3⟩ := q3
      obtain ⟨m', hm, w3⟩ := hN σ3 H3 n3
      exact ⟨m', hm, σ3, H3, I3, w3⟩
    | cont =>
      obtain ⟨σ3, H3, I3, n3⟩ := q3
      obtain ⟨m', hm, w3⟩ := hN σ3 H3 n3
      exact ⟨m', hm, σ3, H3, I3, w3⟩
    | brk => exact q3
    | ret v => exact q3
  | false =>
    rw [if_neg Bool.false_ne_true]
    exact wpAny_execs_nil ⟨σ1, H2, I2, q2⟩
end

/-! ### what a loop or a comprehension walks -/
/-- at turn i: it yields x (the heap may grow), or it stops -/
structure It where
  go : Nat → Hp → Prop
  yld : Nat → Hp → V → Hp → Prop
  stop : Nat → Hp → Prop
/-- the iterator's own objects may turn: they are not the frame's, not pinned, younger than the entry (or a comprehension's own) -/
def FpOk (X : Cx) (pins : List (Addr × Obj)) (H : Hp) (b : Addr) : Prop :=
  H b = none ∧ b ≠ X.env.locals ∧ b ∉ X.fs ∧ (b ∈ X.ex ∨ X.s₀.heap.objs.size ≤ b) ∧ (∀ x c, X.env.cells.lookup x = some c → c ≠ b) ∧ ∀ p ∈ X.pn ++ pins, p.1 ≠ b
theorem Inv.fpOk {X : Cx} {pins : List (Addr × Obj)} {σ : St} {H H' : Hp} {s : Shared} {b : Addr} (I : Inv X pins σ H s) (hb : s.heap.objs.size ≤ b) (hn : H' b = none) : FpOk X pins H' b := by
  refine ⟨hn, Nat.ne_of_gt (Nat.lt_of_lt_of_le I.lt hb), I.nofs hb, .inr (Nat.le_trans I.sz hb), fun x c e z => ?_, fun p hp z => ?_⟩
  · obtain ⟨v, q⟩ := I.cell x c e
    exact absurd (Nat.lt_of_lt_of_le q.lt (by rw [z]; exact hb)) (Nat.lt_irrefl _)
  · exact absurd (Nat.lt_of_lt_of_le (Heap.lt_size (I.pin p hp).1) (by rw [z]; exact hb)) (Nat.lt_irrefl _)
structure Turn (P : Program) (w : World) (K : PySem.W.Frag) (tg : Expr) (J : It) (fp : List Addr) (it : Addr) (tn : Nat → Heap → Prop) : Prop where
  mem : it ∈ fp
  obj : ∀ i h, tn i h → ∀ b ∈ fp, ∃ o, h.get? b = some o ∧ ∀ v, o.data ≠ .cell v
  keep : ∀ i h h', tn i h → (∀ b ∈ fp, ∀ o, h.get? b = some o → h'.get? b = some o) → tn i h'
  item : ∀ (X : Cx), X.prog = P → X.w = w → X.K = K → X.calm = true → ∀ (i : Nat) (pins : List (Addr × Obj)) (s : Shared) (σ : St) (H : Hp) (E : Value → Shared → Prop), Inv X pins σ H s → (∀ b ∈ fp, FpOk X pins H b) → tn i s.heap → J.go i H →
    wpAny (model P w) X.A (pyNext (.ref it)) (fun r s1 => ∃ u, r = some u ∧
      wpAny (model P w) X.A (letOwnedTupleGo tg (.ref it) u) (fun _ s2 => ∃ x H', Inv X pins σ H' s2 ∧ RelV x u ∧ J.yld i H x H' ∧ tn (i + 1) s2.heap ∧ ∀ b ∈ fp, H' b = none) E s1) E s
  done : ∀ (X : Cx), X.prog = P → X.w = w → X.K = K → X.calm = true → ∀ (i : Nat) (pins : List (Addr × Obj)) (s : Shared) (σ : St) (H : Hp) (E : Value → Shared → Prop), Inv X pins σ H s → (∀ b ∈ fp, FpOk X pins H b) → tn i s.heap → J.stop i H →
    wpAny (model P w) X.A (pyNext (.ref it)) (fun r s1 => r = none ∧ Inv X pins σ H s1) E s
  self : ∀ (A : Around) (i : Nat) (s : Shared) (Q : Value → Shared → Prop) (E : Value → Shared → Prop), tn i s.heap → Q (.ref it) s → wpAny (model P w) A (pyIter (.ref it)) Q E s
abbrev TI := St → Hp → (It → Hp → Prop) → Prop
/-- an iterator has come -/
def PIE (X : Cx) (pins : List (Addr × Obj)) (σ : St) (tg : Expr) (R : It → Hp → Prop) (itv : Value) (s2 : Shared) : Prop :=
  ∃ (it : Addr) (fp : List Addr) (tn : Nat → Heap → Prop) (J : It) (H' : Hp), itv = .ref it ∧ Inv X pins σ H' s2 ∧ Turn X.prog X.w X.K tg J fp it tn ∧ tn 0 s2.heap ∧ (∀ b ∈ fp, FpOk X pins H' b) ∧ R J H'
def PI (X : Cx) (tg iter : Expr) (wi : TI) : Prop :=
  ∀ (pins : List (Addr × Obj)) (s : Shared) (σ : St) (H : Hp) (R : It → Hp → Prop), Inv X pins σ H s → wi σ H R →
    wpAny (model X.prog X.w) X.A (eval iter X.env) (fun v s1 => wpAny (model X.prog X.w) X.A (pyIter v) (PIE X pins σ tg R) X.xe s1) X.xe s

/-- the step ahead of the store is nothing for an iterator that keeps no tuple -/
theorem go_of {M : Model} {A : Around} {E : Value → Shared → Prop} {s : Shared} {tg : Expr} {it : Addr} {u : Value} {o : Obj} {n : String} {vs : Array Value} {Q : Unit → Shared → Prop} (ho : s.heap.get? it = some o) (hc : o.cls = .type n) (hd : o.data = .fields vs)
    (hn : ["enumerate", "zip", "dict_itemiterator", "dict_reverseitemiterator", "odict_iterator", "itertools.zip_longest", "itertools.pairwise"].contains n = false) (hQ : Q () s) : wpAny M A (letOwnedTupleGo tg (.ref it) u) Q E s := by
  unfold letOwnedTupleGo
  cases tg <;> first
    | exact wpAny_pure hQ
    | (cases u <;> first
        | exact wpAny_pure hQ
        | (refine wpAny_bind (wpAny_load ho ?_)
           rw [hc, hd]
           show wpAny M A (if (["enumerate", "zip", "dict_itemiterator", "dict_reverseitemiterator", "odict_iterator", "itertools.zip_longest", "itertools.pairwise"].contains n && vs[0]? == some (rawInt _)) = true then _ else _) Q E s
           rw [if_neg (by intro h; rw [hn, Bool.false_and] at h; cases h)]
           exact wpAny_pure hQ))

/-- the list at a, as it stands at each turn (a loop may append to it) -/
def Itl (K : PySem.W.Frag) (a : Addr) : It :=
  ⟨fun i H => ∃ xs x, SqL K H a xs ∧ xs[i]? = some x, fun i H x H' => H' = H ∧ ∀ xs, SqL K H a xs → xs[i]? = some x, fun i H => ∃ xs, SqL K H a xs ∧ xs.length ≤ i⟩
/-- lo, lo + 1, .. (n of them) -/
def Itr (lo : Int) (n : Nat) : It := ⟨fun i _ => i < n, fun i H x H' => H' = H ∧ x = .int (lo + i), fun i _ => n ≤ i⟩
theorem turn_list {P : Program} {w : World} {K : PySem.W.Frag} {tg : Expr} (a it : Addr) : Turn P w K tg (Itl K a) [it] it (fun i h => h.IsListIter it a i) where
  mem := by simp
  obj := fun i h st b hb => by
    have e : b = it := by simpa using hb
    subst e
    obtain ⟨o, e, c, d⟩ := st
    exact ⟨o, e, fun v z => by rw [d] at z; cases z⟩
  keep := fun i h h' st k => st.at fun o e => k it (by simp) o e
  item := by
    intro X hP hw hK hc i pins s σ H E I hf st hg
    subst hP hw hK
    obtain ⟨xs, x, hq, hx⟩ := hg
    obtain ⟨its, rv, p, hz⟩ := I.list hq
    obtain ⟨u, hu, ru⟩ := rv.get hx
    obtain ⟨f0, f1, f2, f3, f4, f5⟩ := hf it (by simp)
    refine wpAny_pyNext_list_item st p.isList (x := u) (by simpa using hu) fun h' st' sb => ?_
    have I1 : Inv X pins σ H { s with heap := h' } := I.turned (t' := s.toks) (fun b o hb e => (sb.2 b hb).trans e) f0 f1 f3 f4 f5
    obtain ⟨o, e, c, d⟩ := id st'
    exact ⟨u, rfl, go_of (s := { s with heap := h' }) e c d (by decide) ⟨x, H, I1, ru, ⟨rfl, fun ys hy => by rw [I.list_inj hy hq]; exact hx⟩, st', fun b hb => (hf b hb).1⟩⟩
  done := by
    intro X hP hw hK hc i pins s σ H E I hf st hg
    subst hP hw hK
    obtain ⟨xs, hq, hx⟩ := hg
    obtain ⟨its, rv, p, hz⟩ := I.list hq
    obtain ⟨f0, f1, f2, f3, f4, f5⟩ := hf it (by simp)
    have hl := rv.length
    exact wpAny_pyNext_list_end (I.ok.hd hc) st p.isList (by simp; omega) fun h' eb => ⟨rfl, I.turned (t' := s.toks) (fun b o hb e => eb b o hb e) f0 f1 f3 f4 f5⟩
  self := fun _ _ _ _ _ st h => wpAny_pyIter_listiter st h
theorem turn_range {P : Program} {w : World} {K : PySem.W.Frag} {tg : Expr} (it : Addr) (lo : Int) (n : Nat) : Turn P w K tg (Itr lo n) [it] it (fun i h => IsRangeIter h it (lo + (i : Nat) * 1) ((n : Int) - (i : Nat)) 1) where
  mem := by simp
  obj := fun i h st b hb => by
    have e : b = it := by simpa using hb
    subst e
    exact ⟨_, st, fun v z => by
      have z' : Data.fields _ = Data.cell v := z
      cases z'⟩
  keep := fun i h h' st k => k it (by simp) _ st
  item := by
    intro X hP hw hK hc i pins s σ H E I hf st hg
    subst hP hw hK
    obtain ⟨f0, f1, f2, f3, f4, f5⟩ := hf it (by simp)
    have W := Walks.range (prog := X.prog) (w := X.w) (I.ok.hd hc) it lo 1 n
    refine W.item i s _ _ hg st fun v h' tk hv st' kk => ?_
    obtain ⟨t, rfl⟩ := hv
    have I1 : Inv X pins σ H { s with heap := h', toks := tk } := I.turned (fun b o hb e => kk b o (by simpa using hb) e) f0 f1 f3 f4 f5
    refine ⟨_, rfl, go_of (s := { s with heap := h', toks := tk }) (n := "range_iterator") st' rfl rfl (by decide) ⟨.int (lo + i), H, I1, ⟨t, ?_⟩, ⟨rfl, rfl⟩, st', fun b hb => (hf b hb).1⟩⟩
    rw [Int.mul_one]
  done := by
    intro X hP hw hK hc i pins s σ H E I hf st hg
    subst hP hw hK
    obtain ⟨f0, f1, f2, f3, f4, f5⟩ := hf it (by simp)
    exact wpAny_pyNext_range_end (I.ok.hd hc) st (by have : n ≤ i := hg; omega) fun h' eb => ⟨rfl, I.turned (t' := s.toks) (fun b o hb e => eb b o hb e) f0 f1 f3 f4 f5⟩
  self := fun _ _ _ _ _ st h => wpAny_pyIter_rangeiter st h
end L2

namespace L2
open PySem PySem.Spec PyProof.Rows
section
variable {X : Cx} {tg : Expr}
def iList (K : PySem.W.Frag) (tl : TE) : TI := fun σ H R => tl σ H fun x H1 => ∃ a, x = .ref a ∧ (∃ xs, SqL K H1 a xs) ∧ R (Itl K a) H1
theorem pi_list {l : Expr} {tl : TE} (hl : PE X l tl) : PI X tg l (iList X.K tl) := by
  intro pins s σ H R I h
  refine thn (hl pins s σ H _ I h) fun v s1 ⟨x, H1, I1, r1, q1⟩ => ?_
  obtain ⟨a, e, ⟨xs, hq⟩, q⟩ := q1
  subst e
  cases r1
  obtain ⟨its, rv, p, hz⟩ := I1.list hq
  refine wpAny_pyIter_list p.isList ?_
  refine ⟨s1.heap.objs.size, [s1.heap.objs.size], _, _, H1, rfl, I1.kept (t' := s1.toks) fun b o e => Heap.get?_push_of_some _ e, turn_list a _, ⟨_, Heap.get?_push_size _ rfl, rfl, rfl⟩, fun b hb => ?_, q⟩
  have e : b = s1.heap.objs.size := by simpa using hb
  subst e
  exact I1.fpOk (Nat.le_refl _) (I1.hok.fresh (Nat.le_refl _))
/-- a range object just made, walked -/
theorem range_it {pins : List (Addr × Obj)} {σ : St} {H : Hp} {s : Shared} {R : It → Hp → Prop} {E : Value → Shared → Prop} {lo hi : Int} {t u v : Tok} {tk : Nat} (I : Inv X pins σ H s) (h1 : -(2 ^ 62) ≤ lo) (h2 : lo < 2 ^ 62) (h3 : -(2 ^ 62) ≤ hi) (h4 : hi < 2 ^ 62)
    (q : R (Itr lo (hi - lo).toNat) H) : wpAny (model X.prog X.w) X.A (pyIter (.ref s.heap.objs.size)) (PIE X pins σ tg R) E { s with heap := s.heap.push { cls := .type "range", data := .fields #[.int lo t, .int hi u, .int 1 v] }, toks := tk } := by
  refine wpAny_pyIter_range (IsRange.new ..) (small_one h1 h2 h3 h4) ?_
  have I1 : Inv X pins σ H { s with heap := s.heap.push { cls := .type "range", data := .fields #[.int lo t, .int hi u, .int 1 v] }, toks := tk } := I.kept fun b o e => Heap.get?_push_of_some _ e
  refine ⟨(s.heap.push { cls := .type "range", data := .fields #[.int lo t, .int hi u, .int 1 v] }).objs.size, [(s.heap.push { cls := .type "range", data := .fields #[.int lo t, .int hi u, .int 1 v] }).objs.size], _, _, H, rfl,
    I1.kept (t' := tk) fun b o e => Heap.get?_push_of_some _ e, turn_range _ lo (hi - lo).toNat, ?_, fun b hb => ?_, q⟩
  · have e1 : lo + ((0 : Nat) : Int) * 1 = lo := by simp
    have e2 : (((hi - lo).toNat : Nat) : Int) - ((0 : Nat) : Int) = Builtin.Range.rangeSize lo hi 1 := by rw [rangeSize_one]; split <;> omega
    show IsRangeIter _ _ (lo + ((0 : Nat) : Int) * 1) ((((hi - lo).toNat : Nat) : Int) - ((0 : Nat) : Int)) 1
    rw [e1, e2]
    exact Heap.get?_push_size _ rfl
  · have e : b = (s.heap.push { cls := .type "range", data := .fields #[.int lo t, .int hi u, .int 1 v] }).objs.size := by simpa using hb
    subst e
    exact I1.fpOk (Nat.le_refl _) (I1.hok.fresh (Nat.le_refl _))
def iRng1 (ta : TA) : TI := fun σ H R => ta σ H fun vs H1 => ∃ j : Int, vs = [.int j] ∧ -(2 ^ 62) ≤ j ∧ j < 2 ^ 62 ∧ R (Itr 0 j.toNat) H1
theorem pi_range1 {a : Expr} {ta : TA} {p pos : Pos} (hg : Gl X "range") (hm : X.mg "range" = none) (ha : PA X [a] ta) (hs : starEach [a] X.env = [(false, eval a X.env)] := by rfl) : PI X tg (.Call (.Name "range" p) [a] [] pos) (iRng1 ta) := by
  intro pins s σ H R I h
  refine Call_ (ld_blt I hg hm boot_range (PyProof.Rows.callWith_type1 (thn (ha pos pins s σ H _ I h) fun us s1 ⟨vs, H1, I1, r1, q1⟩ => ?_) hs rfl))
  obtain ⟨j, e, q1, q2, q⟩ := q1
  subst e
  cases r1 with
  | cons r rr =>
    cases rr
    obtain ⟨t, rfl⟩ := r
    exact call_range_1 (range_it I1 (by omega) (by omega) q1 q2 (by simpa using q))
/-! ### for -/
/-- W: the invariant by the turn and a measure; N: what the body is to reach -/
def tFor (wi : TI) (g : TG) (tb : TS) : TS := fun D σ H => wi σ H fun J H1 => ∃ W : Nat → Nat → St → Hp → Prop, (∃ m, W 0 m σ H1) ∧ ∀ i m σ H, W i m σ H →
  (J.stop i H ∧ D.nx σ H) ∨ (J.go i H ∧ ∃ N : St → Hp → Prop, (∀ σ' H', N σ' H' → ∃ m', m' < m ∧ W (i + 1) m' σ' H') ∧ ∀ x H', J.yld i H x H' → g x σ H' fun σ2 H2 => tb { D with nx := N, ct := N, bk := D.nx } σ2 H2)
/-- the records at fp as they stand -/
def pinsAt (fp : List Addr) (h : Heap) : List (Addr × Obj) := fp.filterMap fun b => (h.get? b).map fun o => (b, o)
theorem mem_pinsAt {fp : List Addr} {h : Heap} {b : Addr} {o : Obj} (hb : b ∈ fp) (e : h.get? b = some o) : (b, o) ∈ pinsAt fp h := List.mem_filterMap.mpr ⟨b, hb, by rw [e]; rfl⟩
theorem of_pinsAt {fp : List Addr} {h : Heap} {p : Addr × Obj} (hp : p ∈ pinsAt fp h) : p.1 ∈ fp ∧ h.get? p.1 = some p.2 := by
  obtain ⟨b, hb, e⟩ := List.mem_filterMap.mp hp
  cases q : h.get? b with
  | none => rw [q] at e; cases e
  | some o =>
    rw [q] at e
    have e' : (b, o) = p := Option.some.inj e
    subst e'
    exact ⟨hb, q⟩
theorem Inv.pinned {pins : List (Addr × Obj)} {σ : St} {H : Hp} {s : Shared} {fp : List Addr} (I : Inv X pins σ H s) (hf : ∀ b ∈ fp, FpOk X pins H b) (ho : ∀ b ∈ fp, ∃ o, s.heap.get? b = some o ∧ ∀ v, o.data ≠ .cell v) : Inv X (pins ++ pinsAt fp s.heap) σ H s :=
  I.pins_of fun p hp => (List.mem_append.mp hp).elim (fun z => I.pin p (List.mem_append_right _ z)) fun z => by
    obtain ⟨hb, e⟩ := of_pinsAt z
    obtain ⟨f0, f1, f2, _⟩ := hf p.1 hb
    obtain ⟨o, e', d⟩ := ho p.1 hb
    rw [e] at e'; cases e'
    exact ⟨e, f0, f1, f2, d⟩
theorem Inv.unpinned {pins pl : List (Addr × Obj)} {σ : St} {H : Hp} {s : Shared} (I : Inv X (pins ++ pl) σ H s) : Inv X pins σ H s := I.pins_of fun p hp => I.pin p (List.mem_append_right _ (List.mem_append_left _ hp))
theorem ps_for {iter : Expr} {body : List Stmt} {wi : TI} {g : TG} {tb : TS} {pos : Pos} (hp : PassesOwn (model X.prog X.w) X.A X.env X.xe) (hc : X.calm = true) (hi : PI X tg iter wi) (hg : PG X tg g) (hb : PSs X body tb)
    (hs : ∀ x, foldedSetIterable iter X.env x = pure x := by intro _; rfl) : PS X (.For tg iter body [] pos) (tFor wi g tb) := by
  intro pins s σ H D I h
  refine wpAny_For (thn (hi pins s σ H _ I h) fun v s1 h1 => thn h1 fun itv s2 h2 => ?_) hs
  obtain ⟨it, fp, tn, J, H2, e, I2, T, st2, f2, W, ⟨m0, w0⟩, turn⟩ := h2
  subst e
  -- what stays true of the iterator's objects through the loop
  have stat : ∀ {H' : Hp}, (∀ b ∈ fp, H' b = none) → ∀ b ∈ fp, FpOk X pins H' b := fun hn b hb => ⟨hn b hb, (f2 b hb).2⟩
  refine codeAny_forLoop_any (fun n s' => ∃ i σ' H', Inv X pins σ' H' s' ∧ tn i s'.heap ∧ (∀ b ∈ fp, H' b = none) ∧ W i n σ' H') ?_ m0 ⟨0, σ, H2, I2, st2, fun b hb => (f2 b hb).1, w0⟩
  rintro n s3 ⟨i, σ3, H3, I3, st3, fr3, w3⟩
  rcases turn i n σ3 H3 w3 with ⟨stop, qn⟩ | ⟨go, N, hN, step⟩
  · refine wpAny_passesOwn hp (thn (T.done X rfl rfl rfl hc i pins s3 σ3 H3 X.xe I3 (stat fr3) st3 stop) fun r s4 ⟨hr, I4⟩ => ?_)
    subst hr
    exact wpAny_execs_nil ⟨σ3, H3, I4, qn⟩
  · refine wpAny_passesOwn hp (thn (T.item X rfl rfl rfl hc i pins s3 σ3 H3 X.xe I3 (stat fr3) st3 go) fun r s4 ⟨u, hr, h4⟩ => ?_)
    subst hr
    refine wpAny_passesOwn hp (thn h4 fun _ s5 ⟨x, H5, I5, r5, y5, st5, fr5⟩ => ?_)
    have I5' := I5.pinned (stat fr5) (T.obj _ _ st5)
    refine wpAny_passesOwn hp (thn (hg _ s5 σ3 H5 x u _ I5' r5 (step x H5 y5)) fun _ s6 ⟨σ6, H6, I6, q6⟩ => ?_)
    refine wpAny_passesOwn hp (thn (hb _ s6 σ6 H6 _ I6 q6) fun f s7 q7 => ?_)
    have again : ∀ {σ7 : St} {H7 : Hp}, Inv X (pins ++ pinsAt fp s5.heap) σ7 H7 s7 → N σ7 H7 → ∃ m, m < n ∧ ∃ i σ' H', Inv X pins σ' H' s7 ∧ tn i s7.heap ∧ (∀ b ∈ fp, H' b = none) ∧ W i m σ' H' := fun {σ7 H7} I7 n7 => by
      obtain ⟨m', hm, w7⟩ := hN σ7 H7 n7
      refine ⟨m', hm, i + 1, σ7, H7, I7.unpinned, T.keep _ _ _ st5 fun b hb o e => (I7.pin (b, o) (List.mem_append_right _ (List.mem_append_right _ (mem_pinsAt hb e)))).1, fun b hb => ?_, w7⟩
      obtain ⟨o, e, d⟩ := T.obj _ _ st5 b hb
      exact (I7.pin (b, o) (List.mem_append_right _ (List.mem_append_right _ (mem_pinsAt hb e)))).2.1
    cases f with
    | next => obtain ⟨σ7, H7, I7, n7⟩ := q7; exact again I7 n7
    | cont => obtain ⟨σ7, H7, I7, n7⟩ := q7; exact again I7 n7
    | brk => obtain ⟨σ7, H7, I7, q7⟩ := q7; exact ⟨σ7, H7, I7.unpinned, q7⟩
    | ret v => obtain ⟨x7, σ7, H7, I7, r7, q7⟩ := q7; exact ⟨x7, σ7, H7, I7.unpinned, r7, q7⟩
end

/-! ### the forms one uses -/
/-- over a list that the body leaves as it is -/
theorem for_list {K : PySem.W.Frag} {a : Addr} {xs : List V} {g : TG} {tb : TS} {D : Ends} {σ : St} {H : Hp} (Pv : Nat → St → Hp → Prop) (h0 : Pv 0 σ H) (hl : ∀ i σ H, i ≤ xs.length → Pv i σ H → SqL K H a xs)
    (hs : ∀ i x σ H, xs[i]? = some x → Pv i σ H → g x σ H fun σ2 H2 => tb { D with nx := Pv (i + 1), ct := Pv (i + 1), bk := D.nx } σ2 H2) (hd : ∀ σ H, Pv xs.length σ H → D.nx σ H) :
    ∃ W : Nat → Nat → St → Hp → Prop, (∃ m, W 0 m σ H) ∧ ∀ i m σ H, W i m σ H →
      ((Itl K a).stop i H ∧ D.nx σ H) ∨ ((Itl K a).go i H ∧ ∃ N : St → Hp → Prop, (∀ σ' H', N σ' H' → ∃ m', m' < m ∧ W (i + 1) m' σ' H') ∧ ∀ x H', (Itl K a).yld i H x H' → g x σ H' fun σ2 H2 => tb { D with nx := N, ct := N, bk := D.nx } σ2 H2) := by
  refine ⟨fun i m σ H => m = xs.length - i ∧ i ≤ xs.length ∧ Pv i σ H, ⟨xs.length, by simp, Nat.zero_le _, h0⟩, ?_⟩
  rintro i m σ H ⟨rfl, hi, p⟩
  have q := hl i σ H hi p
  by_cases hlt : i < xs.length
  · refine .inr ⟨⟨xs, xs[i], q, by simp [hlt]⟩, Pv (i + 1), fun σ' H' p' => ⟨xs.length - (i + 1), by omega, rfl, hlt, p'⟩, fun x H' y => ?_⟩
    obtain ⟨e, y⟩ := y
    subst e
    exact hs i x σ _ (y xs q) p
  · have e : i = xs.length := by omega
    subst e
    exact .inl ⟨⟨xs, q, Nat.le_refl _⟩, hd σ H p⟩
theorem for_range {lo : Int} {n : Nat} {g : TG} {tb : TS} {D : Ends} {σ : St} {H : Hp} (Pv : Nat → St → Hp → Prop) (h0 : Pv 0 σ H)
    (hs : ∀ i σ H, i < n → Pv i σ H → g (.int (lo + i)) σ H fun σ2 H2 => tb { D with nx := Pv (i + 1), ct := Pv (i + 1), bk := D.nx } σ2 H2) (hd : ∀ σ H, Pv n σ H → D.nx σ H) :
    ∃ W : Nat → Nat → St → Hp → Prop, (∃ m, W 0 m σ H) ∧ ∀ i m σ H, W i m σ H →
      ((Itr lo n).stop i H ∧ D.nx σ H) ∨ ((Itr lo n).go i H ∧ ∃ N : St → Hp → Prop, (∀ σ' H', N σ' H' → ∃ m', m' < m ∧ W (i + 1) m' σ' H') ∧ ∀ x H', (Itr lo n).yld i H x H' → g x σ H' fun σ2 H2 => tb { D with nx := N, ct := N, bk := D.nx } σ2 H2) := by
  refine ⟨fun i m σ H => m = n - i ∧ i ≤ n ∧ Pv i σ H, ⟨n, by simp, Nat.zero_le _, h0⟩, ?_⟩
  rintro i m σ H ⟨rfl, hi, p⟩
  by_cases hlt : i < n
  · refine .inr ⟨hlt, Pv (i + 1), fun σ' H' p' => ⟨n - (i + 1), by omega, rfl, hlt, p'⟩, fun x H' y => ?_⟩
    obtain ⟨e, y⟩ := y
    subst e y
    exact hs i σ _ hlt p
  · have e : i = n := by omega
    subst e
    exact .inl ⟨Nat.le_refl _, hd σ H p⟩
end L2

namespace L2
open PySem PySem.Spec PyProof.Rows

abbrev R2 := V → V → Hp → VK → Prop
/-- a two-place operation on values: f is binaryOp op, inplaceOp op or compareOp op -/
def OpR (X : Cx) (f : Value → Value → Sem Value) (r : R2) : Prop :=
  ∀ (pins : List (Addr × Obj)) (s : Shared) (σ : St) (H : Hp) (x y : V) (v u : Value) (Q : VK), Inv X pins σ H s → RelV x v → RelV y u → r x y H Q →
    wpAny (model X.prog X.w) X.A (f v u) (EP X pins σ Q) X.xe s
/-- a one-place operation -/
def UnR (X : Cx) (f : Value → Sem Value) (r : V → Hp → VK → Prop) : Prop :=
  ∀ (pins : List (Addr × Obj)) (s : Shared) (σ : St) (H : Hp) (x : V) (v : Value) (Q : VK), Inv X pins σ H s → RelV x v → r x H Q →
    wpAny (model X.prog X.w) X.A (f v) (EP X pins σ Q) X.xe s
/-- a call of a value that is known (a builtin, a type) with values -/
def CallR (X : Cx) (f : Value) (r : List V → Hp → VK → Prop) : Prop :=
  ∀ (pins : List (Addr × Obj)) (s : Shared) (σ : St) (H : Hp) (xs : List V) (us : List Value) (Q : VK), Inv X pins σ H s → Vals xs us → r xs H Q →
    wpAny (model X.prog X.w) X.A (call f us) (EP X pins σ Q) X.xe s
/-- a value's truth -/
def TruR (X : Cx) (r : V → Hp → (Bool → Hp → Prop) → Prop) : Prop :=
  ∀ (pins : List (Addr × Obj)) (s : Shared) (σ : St) (H : Hp) (x : V) (v : Value) (Q : Bool → Hp → Prop), Inv X pins σ H s → RelV x v → r x H Q →
    wpAny (model X.prog X.w) X.A (truthy v) (TP X pins σ Q) X.xe s

def tOp (r : R2) (ta tb : TE) : TE := fun σ H Q => ta σ H fun x H1 => tb σ H1 fun y H2 => r x y H2 Q
def tUn (r : V → Hp → VK → Prop) (ta : TE) : TE := fun σ H Q => ta σ H fun x H1 => r x H1 Q
/-- ints in, under C, and a value out -/
def rI (C : Int → Int → Prop) (g : Int → Int → V) : R2 := fun x y H Q => ∃ i j, x = .int i ∧ y = .int j ∧ C i j ∧ Q (g i j) H
def rI0 (g : Int → Int → V) : R2 := fun x y H Q => ∃ i j, x = .int i ∧ y = .int j ∧ Q (g i j) H
def rU (g : Int → V) : V → Hp → VK → Prop := fun x H Q => ∃ i, x = .int i ∧ Q (g i) H

section
variable {X : Cx} {a b c : Expr} {ta tb tc : TE} {pos : Pos}

theorem binT (ha : PE X a ta) (hb : PE X b tb) {pins : List (Addr × Obj)} {s : Shared} {σ : St} {H : Hp} {R : V → V → Hp → Prop} (I : Inv X pins σ H s)
    (h : ta σ H fun x H1 => tb σ H1 fun y H2 => R x y H2) {Q : Value → Shared → Prop} {f : Value → Value → Sem Value}
    (hf : ∀ v u s2 x y H2, Inv X pins σ H2 s2 → RelV x v → RelV y u → R x y H2 → wpAny (model X.prog X.w) X.A (f v u) Q X.xe s2) :
    wpAny (model X.prog X.w) X.A (eval a X.env) (fun v s₁ => wpAny (model X.prog X.w) X.A (eval b X.env) (fun u s₂ => wpAny (model X.prog X.w) X.A (f v u) Q X.xe s₂) X.xe s₁) X.xe s := by
  refine thn (ha pins s σ H _ I h) fun v s1 ⟨x, H1, I1, r1, q1⟩ => ?_
  refine thn (hb pins s1 σ H1 _ I1 q1) fun u s2 ⟨y, H2, I2, r2, q2⟩ => ?_
  exact hf v u s2 x y H2 I2 r1 r2 q2

theorem pe_op {op : Operator} {r : R2} (ho : OpR X (binaryOp op) r) (ha : PE X a ta) (hb : PE X b tb) : PE X (.BinOp a op b pos) (tOp r ta tb) := by
  intro pins s σ H Q I h
  exact wpAny_BinOp (binT ha hb I h fun v u s2 x y H2 I2 rx ry q => ho pins s2 σ H2 x y v u Q I2 rx ry q)
theorem pe_un {op : UnaryOp} {r : V → Hp → VK → Prop} (ho : UnR X (unaryOp op) r) (ha : PE X a ta) : PE X (.UnaryOp op a pos) (tUn r ta) := by
  intro pins s σ H Q I h
  exact UnaryOp_ (thn (ha pins s σ H _ I h) fun v s1 ⟨x, H1, I1, r1, q1⟩ => ho pins s1 σ H1 x v Q I1 r1 q1)
/-! ### ints -/
theorem opI {f : Value → Value → Sem Value} {C : Int → Int → Prop} {g : Int → Int → Int}
    (rule : ∀ (i j : Int) (t u : Tok) (s : Shared) (Q : Value → Shared → Prop) (E : Value → Shared → Prop), C i j → Q (.int (g i j) s.toks) { s with toks := s.toks + 1 } → wpAny (model X.prog X.w) X.A (f (.int i t) (.int j u)) Q E s) :
    OpR X f (rI C fun i j => .int (g i j)) := by
  intro pins s σ H x y v u Q I rx ry h
  obtain ⟨i, j, rfl, rfl, hc, q⟩ := h
  obtain ⟨t, rfl⟩ := rx
  obtain ⟨t', rfl⟩ := ry
  exact rule i j t t' s _ _ hc ⟨.int (g i j), H, I.tok _, ⟨_, rfl⟩, q⟩
theorem opI0 {f : Value → Value → Sem Value} {g : Int → Int → Int}
    (rule : ∀ (i j : Int) (t u : Tok) (s : Shared) (Q : Value → Shared → Prop) (E : Value → Shared → Prop), Q (.int (g i j) s.toks) { s with toks := s.toks + 1 } → wpAny (model X.prog X.w) X.A (f (.int i t) (.int j u)) Q E s) :
    OpR X f (rI0 fun i j => .int (g i j)) := by
  intro pins s σ H x y v u Q I rx ry h
  obtain ⟨i, j, rfl, rfl, q⟩ := h
  obtain ⟨t, rfl⟩ := rx
  obtain ⟨t', rfl⟩ := ry
  exact rule i j t t' s _ _ ⟨.int (g i j), H, I.tok _, ⟨_, rfl⟩, q⟩
theorem opB0 {f : Value → Value → Sem Value} {g : Int → Int → Bool}
    (rule : ∀ (i j : Int) (t u : Tok) (s : Shared) (Q : Value → Shared → Prop) (E : Value → Shared → Prop), Q (.bool (g i j)) s → wpAny (model X.prog X.w) X.A (f (.int i t) (.int j u)) Q E s) :
    OpR X f (rI0 fun i j => .bl (g i j)) := by
  intro pins s σ H x y v u Q I rx ry h
  obtain ⟨i, j, rfl, rfl, q⟩ := h
  obtain ⟨t, rfl⟩ := rx
  obtain ⟨t', rfl⟩ := ry
  exact rule i j t t' s _ _ ⟨.bl (g i j), H, I, rfl, q⟩

def CDiv (i j : Int) : Prop := 0 < j ∧ j < 1073741824
def CPow (i j : Int) : Prop := 0 ≤ j ∧ j ≤ 1000000 ∧ i.natAbs < 2 ^ 64
def CMul (i j : Int) : Prop := (-(2 ^ 64) < i ∧ i < 2 ^ 64) ∨ (-(2 ^ 64) < j ∧ j < 2 ^ 64)
theorem CMul.ok {i j : Int} (h : CMul i j) : IntMulOk i j := by
  rcases h with ⟨h1, h2⟩ | ⟨h1, h2⟩
  · exact .of_left (intBits_le_64 h1 h2)
  · exact .of_right (intBits_le_64 h1 h2)
theorem op_add : OpR X (binaryOp .Add) (rI0 fun i j => .int (i + j)) := opI0 fun _ _ _ _ _ _ _ q => add_int q
theorem op_sub : OpR X (binaryOp .Sub) (rI0 fun i j => .int (i - j)) := opI0 fun _ _ _ _ _ _ _ q => sub_int q
theorem op_mul : OpR X (binaryOp .Mult) (rI CMul fun i j => .int (i * j)) := opI fun _ _ _ _ _ _ _ hc q => mul_int q hc.ok
/-- // by a positive divisor -/
theorem op_fdiv : OpR X (binaryOp .FloorDiv) (rI CDiv fun i j => .int (i / j)) := opI fun i j _ _ _ _ _ hc q => by
  have h1 : (0 : Int) < j := hc.1
  have h2 : j < 1073741824 := hc.2
  exact floordiv_int (by omega) (by rw [Int.fdiv_eq_ediv_of_nonneg i (by omega)]; exact q) (.inl (PyProof.noPylong_small (by omega)))
/-- % by a positive divisor of any size -/
theorem op_mod : OpR X (binaryOp .Mod) (rI (fun _ j => 0 < j) fun i j => .int (i % j)) := opI fun i j _ _ _ _ _ hc q => by
  have h1 : (0 : Int) < j := hc
  exact mod_int' (by omega) (by rw [Int.fmod_eq_emod_of_nonneg i (by omega)]; exact q)
theorem op_pow : OpR X (binaryOp .Pow) (rI CPow fun i j => .int (i ^ j.toNat)) := opI fun _ _ _ _ _ _ _ hc q => pow_int_small hc.1 hc.2.1 hc.2.2 q
theorem unI {f : Value → Sem Value} {g : Int → Int}
    (rule : ∀ (i : Int) (t : Tok) (s : Shared) (Q : Value → Shared → Prop) (E : Value → Shared → Prop), Q (.int (g i) s.toks) { s with toks := s.toks + 1 } → wpAny (model X.prog X.w) X.A (f (.int i t)) Q E s) :
    UnR X f (rU fun i => .int (g i)) := by
  intro pins s σ H x v Q I rx h
  obtain ⟨i, rfl, q⟩ := h
  obtain ⟨t, rfl⟩ := rx
  exact rule i t s _ _ ⟨.int (g i), H, I.tok _, ⟨_, rfl⟩, q⟩
theorem un_neg : UnR X (unaryOp .USub) (rU fun i => .int (-i)) := unI fun _ _ _ _ _ q => neg_int q
/-! ### bools among ints: n += (a < b) -/
end

/-! ### comparisons -/
/-- the scalars that == tells apart as data does -/
def scal : V → V → Bool
  | .non, .non => true | .non, .int _ => true | .int _, .non => true | .non, .bl _ => true | .bl _, .non => true | .non, .str _ => true | .str _, .non => true
  | .int _, .int _ => true | .bl _, .bl _ => true | .str _, .str _ => true | .byt _, .byt _ => true
  | .int _, .str _ => true | .str _, .int _ => true | .bl _, .str _ => true | .str _, .bl _ => true
  | _, _ => false
def rEq : R2 := fun x y H Q => scal x y = true ∧ Q (.bl (decide (x = y))) H
def rNe : R2 := fun x y H Q => scal x y = true ∧ Q (.bl (!decide (x = y))) H

theorem dec_int {i j : Int} : decide (V.int i = V.int j) = (i == j) := by
  rw [Bool.eq_iff_iff]
  simp
theorem dec_bl {i j : Bool} : decide (V.bl i = V.bl j) = (i == j) := by
  rw [Bool.eq_iff_iff]
  simp
theorem dec_str {i j : Str} : decide (V.str i = V.str j) = (i == j) := by
  rw [Bool.eq_iff_iff]
  simp
theorem dec_byt {i j : Array UInt8} : decide (V.byt i = V.byt j) = (i.toList == j.toList) := by
  rw [Bool.eq_iff_iff]
  cases i
  cases j
  simp

section
variable {X : Cx} {a b c : Expr} {ta tb tc : TE} {pos : Pos}
theorem fin_bl {pins : List (Addr × Obj)} {σ : St} {H : Hp} {s : Shared} {Q : VK} {k k' : Bool} (I : Inv X pins σ H s) (q : Q (.bl k) H) (e : k = k') : EP X pins σ Q (.bool k') s := by
  subst e
  exact ⟨.bl k, H, I, rfl, q⟩
theorem op_eq : OpR X (compareOp .Eq) rEq := by
  intro pins s σ H x y v u Q I rx ry h
  obtain ⟨hs, q⟩ := h
  cases x with
  | non =>
    cases rx
    cases y with
    | non => cases ry; exact PySem.EqNone.eq_none_none (fin_bl I q (by simp))
    | bl j => cases ry; exact PySem.EqNone.eq_none_bool (fin_bl I q (by simp))
    | int j => obtain ⟨t', rfl⟩ := ry; exact PySem.EqNone.eq_none_int (fin_bl I q (by simp))
    | str j => obtain ⟨t', rfl⟩ := ry; exact PySem.EqNone.eq_none_str (fin_bl I q (by simp))
    | _ => exact absurd (show false = true from hs) Bool.false_ne_true
  | bl i =>
    cases rx
    cases y with
    | non => cases ry; exact PySem.EqNone.eq_bool_none (fin_bl I q (by simp))
    | bl j => cases ry; exact eq_bool (fin_bl I q dec_bl)
    | str j => obtain ⟨t', rfl⟩ := ry; exact PySem.EqMixed.eq_bool_str (fin_bl I q (by simp))
    | _ => exact absurd (show false = true from hs) Bool.false_ne_true
  | int i =>
    obtain ⟨t, rfl⟩ := rx
    cases y with
    | non => cases ry; exact PySem.EqNone.eq_int_none (fin_bl I q (by simp))
    | int j => obtain ⟨t', rfl⟩ := ry; exact eq_int (fin_bl I q dec_int)
    | str j => obtain ⟨t', rfl⟩ := ry; exact PySem.EqMixed.eq_int_str (fin_bl I q (by simp))
    | _ => exact absurd (show false = true from hs) Bool.false_ne_true
  | str i =>
    obtain ⟨t, rfl⟩ := rx
    cases y with
    | non => cases ry; exact PySem.EqNone.eq_str_none (fin_bl I q (by simp))
    | bl j => cases ry; exact PySem.EqMixed.eq_str_bool (fin_bl I q (by simp))
    | int j => obtain ⟨t', rfl⟩ := ry; exact PySem.EqMixed.eq_str_int (fin_bl I q (by simp))
    | str j => obtain ⟨t', rfl⟩ := ry; exact eq_str (fin_bl I q dec_str)
    | _ => exact absurd (show false = true from hs) Bool.false_ne_true
  | byt i =>
    obtain ⟨t, rfl⟩ := rx
    cases y with
    | byt j => obtain ⟨t', rfl⟩ := ry; exact PySem.W.eq_bytes (fin_bl I q dec_byt)
    | _ => exact absurd (show false = true from hs) Bool.false_ne_true
  | _ => cases y <;> exact absurd (show false = true from hs) Bool.false_ne_true
theorem op_ne : OpR X (compareOp .NotEq) rNe := by
  intro pins s σ H x y v u Q I rx ry h
  obtain ⟨hs, q⟩ := h
  cases x with
  | non =>
    cases rx
    cases y with
    | non => cases ry; exact PySem.EqNone.ne_none_none (fin_bl I q (by simp))
    | bl j => cases ry; exact PySem.EqNone.ne_none_bool (fin_bl I q (by simp))
    | int j => obtain ⟨t', rfl⟩ := ry; exact PySem.EqNone.ne_none_int (fin_bl I q (by simp))
    | str j => obtain ⟨t', rfl⟩ := ry; exact PySem.EqNone.ne_none_str (fin_bl I q (by simp))
    | _ => exact absurd (show false = true from hs) Bool.false_ne_true
  | bl i =>
    cases rx
    cases y with
    | non => cases ry; exact PySem.EqNone.ne_bool_none (fin_bl I q (by simp))
    | bl j => cases ry; exact ne_bool (fin_bl I q (congrArg not dec_bl))
    | str j => obtain ⟨t', rfl⟩ := ry; exact PySem.EqMixed.ne_bool_str (fin_bl I q (by simp))
    | _ => exact absurd (show false = true from hs) Bool.false_ne_true
  | int i =>
    obtain ⟨t, rfl⟩ := rx
    cases y with
    | non => cases ry; exact PySem.EqNone.ne_int_none (fin_bl I q (by simp))
    | int j => obtain ⟨t', rfl⟩ := ry; exact ne_int (fin_bl I q (congrArg not dec_int))
    | str j => obtain ⟨t', rfl⟩ := ry; exact PySem.EqMixed.ne_int_str (fin_bl I q (by simp))
    | _ => exact absurd (show false = true from hs) Bool.false_ne_true
  | str i =>
    obtain ⟨t, rfl⟩ := rx
    cases y with
    | non => cases ry; exact PySem.EqNone.ne_str_none (fin_bl I q (by simp))
    | bl j => cases ry; exact PySem.EqMixed.ne_str_bool (fin_bl I q (by simp))
    | int j => obtain ⟨t', rfl⟩ := ry; exact PySem.EqMixed.ne_str_int (fin_bl I q (by simp))
    | str j => obtain ⟨t', rfl⟩ := ry; exact ne_str (fin_bl I q (congrArg not dec_str))
    | _ => exact absurd (show false = true from hs) Bool.false_ne_true
  | byt i =>
    obtain ⟨t, rfl⟩ := rx
    cases y with
    | byt j => obtain ⟨t', rfl⟩ := ry; exact PySem.W.ne_bytes (fin_bl I q (congrArg not dec_byt))
    | _ => exact absurd (show false = true from hs) Bool.false_ne_true
  | _ => cases y <;> exact absurd (show false = true from hs) Bool.false_ne_true

theorem op_lt : OpR X (compareOp .Lt) (rI0 fun i j => .bl (decide (i < j))) := opB0 fun _ _ _ _ _ _ _ q => lt_int q
theorem op_le : OpR X (compareOp .LtE) (rI0 fun i j => .bl (decide (i ≤ j))) := opB0 fun _ _ _ _ _ _ _ q => le_int q
theorem op_gt : OpR X (compareOp .Gt) (rI0 fun i j => .bl (decide (j < i))) := opB0 fun _ _ _ _ _ _ _ q => gt_int q
theorem op_ge : OpR X (compareOp .GtE) (rI0 fun i j => .bl (decide (j ≤ i))) := opB0 fun _ _ _ _ _ _ _ q => ge_int q
/-- the one string within the other -/
theorem op_in_str : OpR X (compareOp .In) (fun x y H Q => ∃ i j, x = .str i ∧ y = .str j ∧ Q (.bl (!(Builtin.Str.occurrences j i 0 j.length 1).isEmpty)) H) := by
  intro pins s σ H x y v u Q I rx ry h
  obtain ⟨i, j, rfl, rfl, q⟩ := h
  obtain ⟨t, rfl⟩ := rx
  obtain ⟨t', rfl⟩ := ry
  exact in_str (fin_bl I q rfl)

theorem nomark (b : Expr) {op : CmpOp} (h : op ≠ .In := by decide) (h2 : op ≠ .NotIn := by decide) : behindInMarks op b = false := by
  have e1 : (op == CmpOp.In) = false := by cases op <;> first | rfl | exact absurd rfl h
  have e2 : (op == CmpOp.NotIn) = false := by cases op <;> first | rfl | exact absurd rfl h2
  cases b <;> simp [behindInMarks, e1, e2]
/-- a comparison as a value; hm: nomark b, or (for in, not in) by with_unfolding_all rfl -/
theorem pe_cmpR {op : CmpOp} {r : R2} (ho : OpR X (compareOp op) r) (ha : PE X a ta) (hb : PE X b tb) (hm : behindInMarks op b = false) : PE X (.Compare a [op] [b] pos) (tOp r ta tb) := by
  intro pins s σ H Q I h
  exact wpAny_Compare1 (binT ha hb I h fun v u s2 x y H2 I2 rx ry q => ho pins s2 σ H2 x y v u Q I2 rx ry q) hm
/-- a reading of a value as a test -/
def tTest (t : TE) : TT := fun σ H Q => t σ H fun x H' => ∃ k, x = .bl k ∧ Q k H'
theorem pt_cmpR {op : CmpOp} {r : R2} (ho : OpR X (compareOp op) r) (ha : PE X a ta) (hb : PE X b tb) (hm : behindInMarks op b = false) : PT X (.Compare a [op] [b] pos) (tTest (tOp r ta tb)) := by
  intro pins s σ H Q I h
  refine wpAny_isTrue_Compare1 (thn (ha pins s σ H _ I h) fun v s1 ⟨x, H1, I1, r1, q1⟩ => thn (hb pins s1 σ H1 _ I1 q1) fun u s2 ⟨y, H2, I2, r2, q2⟩ =>
    thn (ho pins s2 σ H2 x y v u _ I2 r1 r2 q2) fun c s3 ⟨z, H3, I3, r3, k, e, q3⟩ => ?_) hm
  subst e
  cases r3
  exact wpAny_truthy_bool ⟨H3, I3, q3⟩
/-! ### truth -/
/-- a value's truth by the abstract heap -/
def TruV (K : PySem.W.Frag) (x : V) (H : Hp) (k : Bool) : Prop :=
  match x with
  | .non => k = false
  | .bl b => k = b
  | .int i => k = (i != 0)
  | .str y => y.length ≤ sizeLine ∧ k = ((y.length : Int) != 0)
  | .byt y => y.size ≤ sizeLine ∧ k = ((y.size : Int) != 0)
  | .ref p => (∃ xs, SqL K H p xs ∧ k = !xs.isEmpty) ∨ (∃ xs, SqT K H p xs ∧ k = !xs.isEmpty) ∨ ∃ kvs, H p = some (.dK kvs) ∧ k = !kvs.isEmpty
  | _ => False
theorem isEmpty_kv {κ : Type} {kvs : List (κ × V)} {vs : List (κ × Value)} (r : KV kvs vs) : (!vs.isEmpty) = !kvs.isEmpty := by
  cases r <;> rfl
theorem isEmpty_of {xs : List V} {its : List Value} (r : Vals xs its) : (!its.toArray.isEmpty) = !xs.isEmpty := by
  cases r <;> simp
theorem line63 : (sizeLine : Nat) < 2 ^ 63 := by rw [sizeLine_eq]; decide
theorem tru_ok : TruR X (fun x H Q => ∃ k, TruV X.K x H k ∧ Q k H) := by
  intro pins s σ H x v Q I rx h
  obtain ⟨k, e, q⟩ := h
  have hl := line63
  have hs : sizeLine = 16777216 := sizeLine_eq
  cases x with
  | non =>
    cases rx
    have e' : k = false := e
    subst e'
    exact truthy_none ⟨H, I, q⟩
  | bl b =>
    cases rx
    have e' : k = b := e
    subst e'
    exact wpAny_truthy_bool ⟨H, I, q⟩
  | int i =>
    obtain ⟨t, rfl⟩ := rx
    have e' : k = (i != 0) := e
    subst e'
    exact PySem.P.truthy_int ⟨H, I, q⟩
  | str y =>
    obtain ⟨t, rfl⟩ := rx
    obtain ⟨hy, e'⟩ : y.length ≤ sizeLine ∧ k = ((y.length : Int) != 0) := e
    subst e'
    exact PySem.P.truthy_str (by omega) ⟨H, I.tok _, q⟩
  | byt y =>
    obtain ⟨t, rfl⟩ := rx
    obtain ⟨hy, e'⟩ : y.size ≤ sizeLine ∧ k = ((y.size : Int) != 0) := e
    subst e'
    exact PySem.W.truthy_bytes (by omega) ⟨H, I.tok _, q⟩
  | ref p =>
    cases rx
    have e' : (∃ xs, SqL X.K H p xs ∧ k = !xs.isEmpty) ∨ (∃ xs, SqT X.K H p xs ∧ k = !xs.isEmpty) ∨ ∃ kvs, H p = some (.dK kvs) ∧ k = !kvs.isEmpty := e
    rcases e' with ⟨xs, hx, e'⟩ | ⟨xs, hx, e'⟩ | ⟨kvs, hx, e'⟩
    · subst e'
      obtain ⟨its, r, pl, hz⟩ := I.list hx
      have hlen := r.length
      exact wpAny_truthy_list pl.isList (by simp only [List.size_toArray]; omega) ⟨H, I.tok _, by rw [isEmpty_of r]; exact q⟩
    · subst e'
      obtain ⟨its, r, pl, hz⟩ := I.tuple hx
      have hlen := r.length
      exact truthy_tuple pl (by simp only [List.size_toArray]; omega) ⟨H, I.tok _, by rw [isEmpty_of r]; exact q⟩
    · subst e'
      obtain ⟨hz, hS, vs, r, m⟩ : kvs.length ≤ sizeLine ∧ (p == sysModules) = false ∧ ∃ vs, KV kvs vs ∧ s.heap.DictOf (mixKind X.prog X.w) p vs := I.hok p _ hx
      have hlen : kvs.length = vs.length := Paired.length r
      exact wpAny_truthy_dict hS m (by omega) ⟨H, I.tok _, by rw [isEmpty_kv r]; exact q⟩
  | _ => exact (show False from e).elim
/-- any expression whose test is its value's truth (a name, a call, a subscript, a field ..: he by fun _ => rfl) -/
theorem pt_truth (ha : PE X a ta) (he : ∀ whole, isTrue a X.env whole = (do let v ← whole; standAt a.pos; holding [v] (truthy v))) :
    PT X a (fun σ H Q => ta σ H fun x H' => ∃ k, TruV X.K x H' k ∧ Q k H') := by
  intro pins s σ H Q I h
  exact isTrue_plain (thn (ha pins s σ H _ I h) fun v s1 ⟨x, H1, I1, r1, q1⟩ => tru_ok pins s1 σ H1 x v Q I1 r1 q1) (he _)

/-! ### strs and bytes -/
theorem op_add_str : OpR X (binaryOp .Add) (fun x y H Q => ∃ i j, x = .str i ∧ y = .str j ∧ i.length + j.length ≤ sizeLine ∧ Q (.str (i ++ j)) H) := by
  intro pins s σ H x y v u Q I rx ry h
  obtain ⟨i, j, rfl, rfl, hz, q⟩ := h
  obtain ⟨t, rfl⟩ := rx
  obtain ⟨t', rfl⟩ := ry
  exact add_str (fun t' tk => ⟨.str (i ++ j), H, I.tok _, ⟨_, rfl⟩, q⟩) hz
/-! ### scalar builtins, by CallR -/
theorem vals1 {x : V} {us : List Value} (r : Vals [x] us) : ∃ u, us = [u] ∧ RelV x u := by
  cases r with
  | cons r1 r2 => cases r2; exact ⟨_, rfl, r1⟩
theorem vals2 {x y : V} {us : List Value} (r : Vals [x, y] us) : ∃ u w', us = [u, w'] ∧ RelV x u ∧ RelV y w' := by
  cases r with
  | cons r1 r2 =>
    cases r2 with
    | cons r3 r4 => cases r4; exact ⟨_, _, rfl, r1, r3⟩
theorem call_int1 : CallR X (.type "int") (fun xs H Q => (∃ i, xs = [.int i] ∧ Q (.int i) H) ∨ ∃ k, xs = [.bl k] ∧ Q (.int (if k then 1 else 0)) H) := by
  intro pins s σ H xs us Q I r h
  rcases h with ⟨i, rfl, q⟩ | ⟨k, rfl, q⟩
  · obtain ⟨u, rfl, t, rfl⟩ := vals1 r
    exact call_int_int ⟨.int i, H, I, ⟨_, rfl⟩, q⟩
  · obtain ⟨u, rfl, r1⟩ := vals1 r
    cases r1
    exact call_int_bool ⟨.int (if k then 1 else 0), H, I.tok _, ⟨_, rfl⟩, q⟩
theorem call_str_int : CallR X (.type "str") (fun xs H Q => ∃ i, xs = [.int i] ∧ i.natAbs.log2 < 1920 ∧ Q (.str (toString i)) H) := by
  intro pins s σ H xs us Q I r h
  obtain ⟨i, rfl, hz, q⟩ := h
  obtain ⟨u, rfl, t, rfl⟩ := vals1 r
  exact PySem.P.str_of_int hz ⟨.str _, H, I.tok _, ⟨_, rfl⟩, q⟩
end
end L2

namespace L2
open PySem PySem.Spec PyProof.Rows

/-! ### an instance, its attributes a map -/
structure ObjM (h : Heap) (x dx C : Addr) (mA : Str → Option Value) : Prop where
  obj : h.get? x = some (PySem.W.instObj C dx)
  ns : h.Ns1 dx mA
  ne : dx ≠ x

theorem lookIn_ns {h : Heap} {dx : Addr} {mA : Str → Option Value} (n : h.Ns1 dx mA) : ∃ od, h.get? dx = some od ∧ ∀ name, PySem.W.lookIn name od = some (mA name) := by
  obtain ⟨o, es, ep, ho, hd, hk, _, hm⟩ := n
  refine ⟨o, ho, fun name => ?_⟩
  have e := hm name
  unfold nsFind findBy at e
  rw [← Array.find?_toList] at e
  unfold PySem.W.lookIn
  rw [hd]
  dsimp only
  split
  · rename_i y q
    rw [q] at e
    exact congrArg some e
  · rename_i q
    rw [q] at e
    have a : es.toList.any (·.refKey) = false := by
      rw [List.any_eq_false]
      intro y hy
      obtain ⟨z, t, hkey⟩ := hk y (Array.mem_toList_iff.mp hy)
      simp [DictEntry.refKey, hkey]
    have a' : ¬ es.toList.any (·.refKey) = true := by rw [a]; exact Bool.false_ne_true
    rw [if_neg a']
    exact congrArg some e

theorem ObjM.look {h : Heap} {x dx C : Addr} {mA : Str → Option Value} (I : ObjM h x dx C mA) : ∃ od, PySem.W.InstAt h x (PySem.W.instObj C dx) C (some od) ∧ ∀ name, PySem.W.lookIn name od = some (mA name) :=
  let ⟨od, ho, hl⟩ := lookIn_ns I.ns
  ⟨od, ⟨I.obj, rfl, rfl, ho⟩, hl⟩

section
variable {prog : Program} {w : World} {A : Around} {E : Value → Shared → Prop} {s : Shared} {K : PySem.W.Frag} {x dx C f : Addr} {mA : Str → Option Value} {name : Str} {v : Value}

end

/-! ### the attributes as a list of pairs -/
theorem RelO.some_of {v : V} {o : Option Value} (r : RelO (some v) o) : ∃ u, o = some u ∧ RelV v u := by
  cases o with
  | none => exact (show False from r).elim
  | some u => exact ⟨u, rfl, r⟩
theorem handed_of {v : V} {u : Value} (r : RelV v u) : PySem.W.handedIn u = true := by
  cases v with
  | non => cases (show u = Value.none from r); rfl
  | bl b => cases (show u = Value.bool b from r); rfl
  | int i => obtain ⟨t, e⟩ := (show ∃ t, u = Value.int i t from r); cases e; rfl
  | str x => obtain ⟨t, e⟩ := (show ∃ t, u = Value.str x t from r); cases e; rfl
  | byt b => obtain ⟨t, e⟩ := (show ∃ t, u = Value.bytes b t from r); cases e; rfl
  | flt b => obtain ⟨t, e⟩ := (show ∃ t, u = Value.float b t from r); cases e; rfl
  | ref a => cases (show u = Value.ref a from r); rfl
  | ty n => cases (show u = Value.type n from r); rfl

section
variable {P : Program} {w : World} {H H' : Hp} {h h' : Heap} {a C dx : Addr} {fs fs' : List (Str × V)}
theorem ins_get (hok : HOk P w H h) (e : H a = some (.ins C dx fs)) : ∃ mA, ObjM h a dx C mA ∧ (∀ f, RelO (fs.lookup f) (mA f)) ∧ PySem.Within mA (fs.map (·.1)) ∧ fs.length ≤ 1000 ∧ H dx = some (.own a) := by
  obtain ⟨d, z, ne, ob, mA, n, r, q⟩ := (show ObjOk P w H h a (.ins C dx fs) from hok a _ e)
  exact ⟨mA, ⟨ob, n, ne⟩, r, q, z, d⟩
end

/-! ### what of the text a class must have -/
structure Cls (K : PySem.W.Frag) (C : Addr) : Prop where
  pg : PySem.W.plainGet K C Str.empty = true
  hd : PySem.W.hasDictIn K C = true
  po : PySem.W.plainOver K C = true
  sa : PySem.W.findIn K (.ref C) "__setattr__" = some (some (.builtin "object.__setattr__"))
theorem Cls.get {K : PySem.W.Frag} {C : Addr} (c : Cls K C) (f : Str) : PySem.W.plainGet K C f = true := c.pg
/-- no class of it has the name -/
def NoAttr (K : PySem.W.Frag) (C : Addr) (f : Str) : Prop := PySem.W.findIn K (.ref C) f = some none
section
variable {X : Cx} {pins : List (Addr × Obj)} {σ : St} {H : Hp} {s : Shared} {a C dx : Addr} {fs : List (Str × V)} {f : Str} {v : V} {A : Around} {E : Value → Shared → Prop}

/-- e.f where nothing but the object is asked: through attributeBase (super) and the last hold -/
theorem attr_of {prog : Program} {w : World} {env : Env} {e : Expr} {f : Str} {pos : Pos} {s : Shared} {Q : Value → Shared → Prop} (hb : attributeBase e f env (eval e env) = eval e env)
    (h : wpAny (model prog w) A (eval e env) (fun o s₁ => wpAny (model prog w) A (getAttr o f true) Q E s₁) E s) : wpAny (model prog w) A (eval (.Attribute e f pos) env) Q E s :=
  Attribute_any_ h (by rw [arm_eval_Attribute, hb])
end

/-! ### readings and rules -/
section
variable {X : Cx} {o e value : Expr} {f : Str} {pos pos' tpos : Pos} {ta tv : TE}
end

/-! ### isinstance -/
section
variable {X : Cx} {pins : List (Addr × Obj)} {σ : St} {H : Hp} {s : Shared} {A : Around} {E : Value → Shared → Prop} {Q : Value → Shared → Prop} {c : Value} {b : Bool}
/-- the type of a value, as the fragment's deciders take it; for an instance its class -/
inductive TyOf (K : PySem.W.Frag) (H : Hp) : V → Value → Prop where
  | non : TyOf K H .non (.type "NoneType")
  | bl (x : Bool) : TyOf K H (.bl x) (.type "bool")
  | int (i : Int) : TyOf K H (.int i) (.type "int")
  | str (x : Str) : TyOf K H (.str x) (.type "str")
  | flt (x : UInt64) : TyOf K H (.flt x) (.type "float")
  | lst {a : Addr} {xs : List V} (e : H a = some (.lst xs)) : TyOf K H (.ref a) (.type "list")
  | frz {a : Addr} {o : Obj} {xs : List V} (e : H a = some (.frz o (.lst xs))) : TyOf K H (.ref a) (.type "list")
  | tup {a : Addr} {xs : List V} (e : H a = some (.tup xs)) : TyOf K H (.ref a) (.type "tuple")
  | dK {a : Addr} {kvs : List (Key × V)} (e : H a = some (.dK kvs)) : TyOf K H (.ref a) (.type "dict")
  | dT {a : Addr} {kvs : List (List Key × V)} (e : H a = some (.dT kvs)) : TyOf K H (.ref a) (.type "dict")
  | ins {a C dx : Addr} {fs : List (Str × V)} (e : H a = some (.ins C dx fs)) (cl : Cls K C) (ha : PySem.W.findIn K (.ref C) "__class__" = some (some (.builtin "object.__class__")))
      (hn : PySem.W.specialIn K (.builtin "object.__class__") "__get__" = some (some (.builtin "getset_descriptor.__get__"))) (htk : PySem.W.takesIn K (.builtin "object.__class__") = some true)
      (hm : PySem.W.mroIn K C (.type "object") = some true) : TyOf K H (.ref a) (.ref C)
/-- isinstance(x, c) for one class c, a built-in or an own one: kitOne's answer -/
theorem isinst_ok {x : V} {u t : Value} (I : Inv X pins σ H s) (rx : RelV x u) (ty : TyOf X.K H x t) (e : PySem.W.kitOne X.K t c = some b) (h : ∀ tk, Q (.bool b) { s with toks := tk }) :
    wpAny (model X.prog X.w) A (call (.builtin "isinstance") [u, c]) Q E s := by
  cases ty with
  | non => cases (show u = Value.none from rx); exact PySem.W.kia_one PySem.W.kitx_none I.kIn True.intro e (fun z => nomatch z) h
  | bl y => cases (show u = Value.bool y from rx); exact PySem.W.kia_one PySem.W.kitx_bool I.kIn True.intro e (fun z => nomatch z) h
  | int i => obtain ⟨t, q⟩ := (show ∃ t, u = Value.int i t from rx); cases q; exact PySem.W.kia_one PySem.W.kitx_int I.kIn True.intro e (fun z => nomatch z) h
  | str y => obtain ⟨t, q⟩ := (show ∃ t, u = Value.str y t from rx); cases q; exact PySem.W.kia_one PySem.W.kitx_str I.kIn True.intro e (fun z => nomatch z) h
  | flt y => obtain ⟨t, q⟩ := (show ∃ t, u = Value.float y t from rx); cases q; exact PySem.W.kia_one PySem.W.kitx_float I.kIn True.intro e (fun z => nomatch z) h
  | @lst a xs ea =>
    cases (show u = Value.ref a from rx)
    obtain ⟨_, _, n, _, h1⟩ := (show ObjOk X.prog X.w H s.heap a (.lst xs) from I.hok a _ ea)
    exact PySem.W.kia_one PySem.W.kitx_list I.kIn ⟨_, h1, rfl⟩ e (fun z => nomatch z) h
  | @frz a ob xs ea =>
    cases (show u = Value.ref a from rx)
    obtain ⟨_, _, _, n, _, h1⟩ := (show ObjOk X.prog X.w H s.heap a (.frz ob (.lst xs)) from I.hok a _ ea)
    exact PySem.W.kia_one PySem.W.kitx_list I.kIn ⟨_, h1, rfl⟩ e (fun z => nomatch z) h
  | @tup a xs ea =>
    cases (show u = Value.ref a from rx)
    obtain ⟨_, _, _, p⟩ := (show ObjOk X.prog X.w H s.heap a (.tup xs) from I.hok a _ ea)
    obtain ⟨o, h1, h2, _⟩ := p
    exact PySem.W.kia_one PySem.W.kitx_tuple I.kIn ⟨o, h1, h2⟩ e (fun z => nomatch z) h
  | @dK a kvs ea =>
    cases (show u = Value.ref a from rx)
    obtain ⟨_, _, vs, _, p⟩ := (show ObjOk X.prog X.w H s.heap a (.dK kvs) from I.hok a _ ea)
    obtain ⟨o, es, ep, h1, h2, _⟩ := p
    exact PySem.W.kia_one PySem.W.kitx_dict I.kIn ⟨o, h1, h2.1⟩ e (fun z => nomatch z) h
  | @dT a kvs ea =>
    cases (show u = Value.ref a from rx)
    obtain ⟨_, _, xs, _, o, es, ep, h1, h2, _⟩ := (show ObjOk X.prog X.w H s.heap a (.dT kvs) from I.hok a _ ea)
    exact PySem.W.kia_one PySem.W.kitx_dict I.kIn ⟨o, h1, h2.1⟩ e (fun z => nomatch z) h
  | @ins a C dx fs ea cl ha hn htk hm =>
    cases (show u = Value.ref a from rx)
    obtain ⟨mA, O, _⟩ := ins_get I.hok ea
    obtain ⟨od, J, _⟩ := O.look
    exact PySem.W.kia_one (PySem.W.kitx_own (cl.get _) cl.hd ha hn htk hm) I.kIn J e (fun z => nomatch z) h
end
end L2

namespace L2
open PySem PySem.Spec PyProof.Rows

/-! ### room -/
structure Room (k : Nat) (A : Around) : Prop where
  hd : A.handled = none
  dp : A.depth + 3 * k + 5 < recursionLimit
  un : A.units + 16 * k + 200 < cLine
theorem Room.mono {j k : Nat} {A : Around} (r : Room k A) (h : j ≤ k) : Room j A := ⟨r.hd, by have := r.dp; omega, by have := r.un; omega⟩
theorem Room.deeper {k : Nat} {A : Around} (r : Room (k + 1) A) (env : Env) : Room k (A.deeper env) :=
  ⟨r.hd, by have := r.dp; show A.depth + 1 + 3 * k + 5 < _; omega, by have := r.un; show A.units + 3 + 16 * k + 200 < _; omega⟩
theorem make_depth {A : Around} {C : Addr} {us : List Value} {kw : List (Str × Value)} : (A.under (.builtin "type.__call__" ⟨.ref C :: us, kw⟩)).depth = A.depth + 1 := by
  first | rfl | simp [Around.under, Code.weight, Code.isCreation, Code.isGuard, Code.isCaller, Code.frames, Code.isFrame, guardIds]
theorem make_units {A : Around} {C : Addr} {us : List Value} {kw : List (Str × Value)} : (A.under (.builtin "type.__call__" ⟨.ref C :: us, kw⟩)).units = A.units + 1 := by
  first | rfl | simp [Around.under, Code.cUnits, Code.frames, Code.isFrame]
theorem Room.make {k : Nat} {A : Around} (r : Room (k + 1) A) (C : Addr) (us : List Value) (kw : List (Str × Value)) : Room k (A.under (.builtin "type.__call__" ⟨.ref C :: us, kw⟩)) :=
  ⟨r.hd, by have := r.dp; rw [make_depth]; omega, by have := r.un; rw [make_units]; omega⟩
theorem Room.depth {k : Nat} {A : Around} (r : Room k A) : A.depth < recursionLimit := by have := r.dp; omega
theorem Room.units {k : Nat} {A : Around} (r : Room k A) : A.units + 64 < cLine := by have := r.un; omega
/-! ### argument lists and displays -/
def tNil : TA := fun _ H Q => Q [] H
def tCons (ta : TE) (tr : TA) : TA := fun σ H Q => ta σ H fun x H1 => tr σ H1 fun xs H2 => Q (x :: xs) H2
section
variable {X : Cx} {e : Expr} {es : List Expr} {te : TE} {t : TA} {pos : Pos}
theorem pa_nil : PA X [] tNil := fun _ _ _ _ H Q I h => Calls.spliced_nil ⟨[], H, I, .nil, h⟩
theorem pa_cons (ha : PE X e te) (hr : PA X es t) (hs : starEach (e :: es) X.env = (false, eval e X.env) :: starEach es X.env := by rfl) : PA X (e :: es) (tCons te t) := by
  intro pos pins s σ H Q I h
  rw [hs]
  show wpAny _ _ (spliced ((false, eval e X.env) :: backTo pos (starEach es X.env))) _ _ s
  refine Calls.spliced_cons (thn (ha pins s σ H _ I h) fun u s1 ⟨x, H1, I1, r1, q1⟩ => ?_)
  exact thn (hr pos pins s1 σ H1 _ I1 q1) fun us s2 ⟨xs, H2, I2, r2, q2⟩ => ⟨x :: xs, H2, I2, .cons r1 r2, q2⟩

/-- a tuple, a list of written items -/
def tTup (t : TA) : TE := fun σ H Q => t σ H fun xs H1 => xs.length ≤ sizeLine ∧ ∀ p, H1 p = none → Q (.ref p) (upd H1 p (.tup xs))
def tLst (t : TA) : TE := fun σ H Q => t σ H fun xs H1 => xs.length ≤ sizeLine ∧ ∀ p, H1 p = none → Q (.ref p) (upd H1 p (.lst xs))
theorem pe_tup {x1} (h : PA X es t) : PE X (.Tuple es x1 pos) (tTup t) := by
  intro pins s σ H Q I hq
  refine wpAny_Tuple_spliced (thn (h pos pins s σ H _ I hq) fun us s1 ⟨xs, H1, I1, r, z, q⟩ => ⟨by rw [← r.length]; exact z, ?_⟩)
  have hf : H1 s1.heap.objs.size = none := I1.hok.fresh (Nat.le_refl _)
  refine ⟨.ref s1.heap.objs.size, upd H1 s1.heap.objs.size (.tup xs), I1.laid (t' := s1.toks) (fun b u e => Heap.get?_push_of_some _ e) (Nat.le_refl _) ?_, rfl, q _ hf⟩
  exact ⟨z, us, r, ⟨_, Heap.get?_push_size _ rfl, rfl, _, rfl⟩⟩
theorem pe_lst (h : PA X es t) : PE X (.List es pos) (tLst t) := by
  intro pins s σ H Q I hq
  refine wpAny_List_spliced (thn (h pos pins s σ H _ I hq) fun us s1 ⟨xs, H1, I1, r, z, q⟩ => ⟨by rw [← r.length]; exact z, ?_⟩)
  have hf : H1 s1.heap.objs.size = none := I1.hok.fresh (Nat.le_refl _)
  refine ⟨.ref s1.heap.objs.size, upd H1 s1.heap.objs.size (.lst xs), I1.laid (t' := s1.toks) (fun b u e => Heap.get?_push_of_some _ e) (Nat.le_refl _) ?_, rfl, q _ hf⟩
  exact ⟨z, us, 0, r, Heap.get?_push_size _ rfl⟩
end

/-! ### what a def promises -/
/-- a def's promise: the bound arguments in the parameters' order, the heap, the wanted end, the wanted exception -/
abbrev Sp := List V → Hp → VK → XK → Prop
/-- how an exception lies behind a call (file 08 gives it): the callers' frames, abstract heap and state ahead of the call, the wish, the exception, the state -/
abbrev CXT := List Env → Hp → Shared → XK → Value → Shared → Prop

/-- the state at a call -/
structure Env0 (P : Program) (w : World) (K : PySem.W.Frag) (mg : Str → Option Value) (base : Heap) (A : Around) (outer : List Env) (s : Shared) (H : Hp) : Prop where
  frames : A.frames = some outer
  mod : Mod K mg base
  bs : ∀ b o, base.get? b = some o → s.heap.get? b = some o ∧ H b = none
  bsz : base.objs.size ≤ s.heap.objs.size
  funs : s.heap.FunFrames base outer
  frf : ∀ b ∈ frs outer, H b = none
  hok : HOk P w H s.heap
  bare : AllBare s.gens
/-- a call's end -/
def CE (outer : List Env) (P : Program) (w : World) (H : Hp) (s : Shared) (Q : VK) (u : Value) (s' : Shared) : Prop :=
  ∃ v H', s'.os = s.os ∧ AllBare s'.gens ∧ Un (frs outer) [] H H' s.heap s'.heap ∧ HOk P w H' s'.heap ∧ RelV v u ∧ Q v H'
def CR (CX : CXT) (outer : List Env) (P : Program) (w : World) (H : Hp) (s : Shared) (Q : VK) (E : XK) (r : Result) (s' : Shared) : Prop :=
  match r with
  | .ok (.ret u) => CE outer P w H s Q u s'
  | .ok _ => False
  | .error e => CX outer H s E e s'
structure FnOk (P : Program) (w : World) (K : PySem.W.Frag) (mg : Str → Option Value) (base : Heap) (CX : CXT) (k : Nat) (f : Addr) (fd : FuncData) (ps : List Str) (sp : Sp) : Prop where
  len : ∀ vs H Q E, sp vs H Q E → vs.length = ps.length
  run : ∀ (A : Around) (outer : List Env) (s : Shared) (H : Hp) (args : Args) (us : List Value) (vs : List V) (Q : VK) (E : XK), Room k A → Env0 P w K mg base A outer s H → BindsTo s fd args (ps.zip us) → Vals vs us → sp vs H Q E →
    codeAny (model P w) A (.call (.ref f) args) (CR CX outer P w H s Q E) s
theorem Env0.make {P : Program} {w : World} {K : PySem.W.Frag} {mg : Str → Option Value} {base : Heap} {A : Around} {outer : List Env} {s : Shared} {H : Hp} (e : Env0 P w K mg base A outer s H) (C : Addr) (us : List Value) (kw : List (Str × Value)) :
    Env0 P w K mg base (A.under (.builtin "type.__call__" ⟨.ref C :: us, kw⟩)) outer s H := ⟨by first | exact e.frames | (simpa [Around.under, Code.envs, Code.isFrame, pushEnvs] using e.frames), e.mod, e.bs, e.bsz, e.funs, e.frf, e.hok, e.bare⟩
section
variable {X : Cx} {pins : List (Addr × Obj)} {σ : St} {H : Hp} {s s' : Shared}
/-- from a body: what a callee wants -/
theorem Inv.env0 (I : Inv X pins σ H s) : Env0 X.prog X.w X.K X.mg X.base X.A X.stack s H :=
  ⟨I.ok.frames, I.ok.mod, I.bs, Nat.le_trans I.ok.bsz I.sz, I.stack, I.stkFree, I.hok, I.bare⟩
/-- behind a call -/
theorem Inv.after {Q : VK} {u : Value} (I : Inv X pins σ H s) (h : CE X.stack X.prog X.w H s Q u s') : EP X pins σ Q u s' := by
  obtain ⟨v, H', os, bare, un, hok, r, q⟩ := h
  obtain ⟨hh, g, d, t, os'⟩ := s'
  obtain rfl : os' = s.os := os
  exact ⟨v, H', I.call (h' := hh) (g' := g) (d' := d) (t' := t) (ch := []) un hok bare (fun b z => absurd z (by simp)), r, q⟩
end

/-! ### calls -/
/-- f(..): the written arguments, then the defaults dvs; E: what is wanted of an exception -/
def tCall (sp : Sp) (dvs : List V) (E : XK) (t : TA) : TE := fun σ H Q => t σ H fun vs H1 => sp (vs ++ dvs) H1 Q E
/-- how the parameters are bound: us the positional arguments, kw the keywords' values by name, ds the defaults that fill up -/
def Binds (K : PySem.W.Frag) (fd : FuncData) (ps : List Str) (ds : List Value) : Prop :=
  ∀ (s : Shared) (us : List Value), K.In s.heap → (us ++ ds).length = ps.length → BindsTo s fd ⟨us, []⟩ (ps.zip (us ++ ds))
/-- every parameter is given -/
theorem Binds.all {K : PySem.W.Frag} {fd : FuncData} {ps : List Str} (h : ∀ us : List Value, us.length = ps.length → bindArgs fd ⟨us, []⟩ = pure (ps.zip us)) : Binds K fd ps [] := fun s us _ hl => by
  rw [List.append_nil] at hl ⊢
  exact .of_eq (h us hl)

/-- an exception of a callee reaches what this body wants of exceptions -/
def Passes (CX : CXT) (X : Cx) (E : XK) : Prop := ∀ (pins : List (Addr × Obj)) (σ : St) (H : Hp) (s : Shared) (e : Value) (s' : Shared), Inv X pins σ H s → CX X.stack H s E e s' → X.xe e s'

section
variable {X : Cx} {CX : CXT} {k : Nat} {f C : Addr} {fd : FuncData} {ps : List Str} {sp : Sp} {dvs : List V} {ds : List Value} {E : XK} {x m : Str} {p pos apos : Pos} {e o : Expr} {es : List Expr} {ta : TE} {t : TA}

/-- the callee runs -/
theorem run_fn {pins : List (Addr × Obj)} {σ : St} {H : Hp} {s : Shared} {Q : VK} {us : List Value} {vs : List V} (F : FnOk X.prog X.w X.K X.mg X.base CX k f fd ps sp) (hr : Room k X.A) (hb : Binds X.K fd ps ds) (hd : Vals dvs ds) (hx : Passes CX X E)
    (I : Inv X pins σ H s) (r : Vals vs us) (h : sp (vs ++ dvs) H Q E) : wpAny (model X.prog X.w) X.A (call (.ref f) us) (EP X pins σ Q) X.xe s := by
  have r2 : Vals (vs ++ dvs) (us ++ ds) := r.append hd
  have hl : (us ++ ds).length = ps.length := by rw [← r2.length]; exact F.len _ _ _ _ h
  refine wpAny_call (codeAny_mono (F.run X.A X.stack s H ⟨us, []⟩ (us ++ ds) (vs ++ dvs) Q E hr I.env0 (hb s us I.kIn hl) r2 h) fun r s' hq => ?_)
  cases r with
  | error e => exact hx pins σ H s e s' I hq
  | ok fl =>
    cases fl with
    | ret u => exact I.after hq
    | next => exact False.elim hq
    | brk => exact False.elim hq
    | cont => exact False.elim hq

theorem pe_call (F : FnOk X.prog X.w X.K X.mg X.base CX k f fd ps sp) (hr : Room k X.A) (hg : Gl X x) (hm : X.mg x = some (.ref f)) (hk : PySem.W.keepIn X.K (.ref f) = true) (hb : Binds X.K fd ps ds) (hd : Vals dvs ds) (hx : Passes CX X E)
    (ha : PA X (e :: es) t) (hdb : (x == ("__debug__" : Str)) = false := by decide) (he : starEach (e :: es) X.env = (false, eval e X.env) :: starEach es X.env := by rfl) (hpl : (backTo pos (starEach es X.env)).any (·.1) = false := by rfl) :
    PE X (.Call (.Name x p) (e :: es) [] pos) (tCall sp dvs E t) := by
  intro pins s σ H Q I h
  refine wpAny_Call_Name_kw (ld_glob I hg hm ?_ hdb)
  refine PySem.W.callWith_K (h₀ := X.base) I.ok.mod.kin hk (thn (ha pos pins s σ H _ I h) fun us s1 ⟨vs, H1, I1, r, q⟩ => ⟨I1.kIn, ?_⟩) he hpl
  exact run_fn F hr hb hd hx I1 r q
end

/-! ### keywords -/
section
variable {X : Cx} {CX : CXT} {k : Nat} {f C : Addr} {fd : FuncData} {ps ks : List Str} {sp : Sp} {E : XK} {x m : Str} {p pos apos kpos : Pos} {e o : Expr} {es : List Expr} {kws : List Keyword} {te ta : TE} {t tk : TA} {nm : Option Str}
variable {g : List Value → List Value → List Value} {gV : List V → List V → List V}
end

/-! ### a def's body keeps its promise -/
/-- names: the parameters first -/
structure FnScope (N P : List Str) (sc : Scope) : Prop where
  kind : sc.kind = .function
  co : sc.isCoroutine = false
  gen : sc.isGenerator = false
  nd : N.Nodup
  pre : N.take P.length = P
  par : ∀ x ∈ P, sc.names.lookup x = some .local ∨ sc.names.lookup x = some .cell
  nofree : ∀ y ∈ sc.names, y.2 ≠ .free

theorem bindL_out {kindOf : Str → Option NameKind} {x : Str} : ∀ {binds : List (Str × Value)} {m : Str → Option Value}, (∀ v, (x, v) ∉ binds) → bindL kindOf binds m x = m x
  | [], _, _ => rfl
  | (n, v) :: r, m, h => by
    unfold bindL
    rw [bindL_out fun w hw => h w (List.mem_cons_of_mem _ hw)]
    split
    · have : x ≠ n := by rintro rfl; exact h v List.mem_cons_self
      simp [this]
    · rfl
theorem bindC_out {kindOf : Str → Option NameKind} {x : Str} : ∀ {binds : List (Str × Value)} {m : Str → Option Value}, (∀ v, (x, v) ∉ binds) → bindC kindOf binds m x = m x
  | [], _, _ => rfl
  | (n, v) :: r, m, h => by
    unfold bindC
    rw [bindC_out fun w hw => h w (List.mem_cons_of_mem _ hw)]
    split
    · rfl
    · have : x ≠ n := by rintro rfl; exact h v List.mem_cons_self
      simp [this]
theorem bindL_get {kindOf : Str → Option NameKind} {x : Str} {v : Value} : ∀ {P : List Str} {vs : List Value} {i : Nat} {m : Str → Option Value}, P.Nodup → P[i]? = some x → vs[i]? = some v → kindOf x = some .local →
    bindL kindOf (P.zip vs) m x = some v
  | [], _, _, _, _, h, _, _ => by simp at h
  | _ :: _, [], _, _, _, _, h, _ => by simp at h
  | p :: P, w :: vs, 0, m, nd, h1, h2, hk => by
    simp at h1 h2; subst h1; subst h2
    show bindL kindOf ((p, w) :: P.zip vs) m p = _
    unfold bindL
    rw [bindL_out fun v hv => (List.nodup_cons.mp nd).1 (List.of_mem_zip hv).1, if_pos hk]
    simp
  | p :: P, w :: vs, i + 1, m, nd, h1, h2, hk => by
    show bindL kindOf ((p, w) :: P.zip vs) m x = _
    unfold bindL
    exact bindL_get (i := i) (List.nodup_cons.mp nd).2 (by simpa using h1) (by simpa using h2) hk
theorem bindC_get {kindOf : Str → Option NameKind} {x : Str} {v : Value} : ∀ {P : List Str} {vs : List Value} {i : Nat} {m : Str → Option Value}, P.Nodup → P[i]? = some x → vs[i]? = some v → kindOf x ≠ some .local →
    bindC kindOf (P.zip vs) m x = some v
  | [], _, _, _, _, h, _, _ => by simp at h
  | _ :: _, [], _, _, _, _, h, _ => by simp at h
  | p :: P, w :: vs, 0, m, nd, h1, h2, hk => by
    simp at h1 h2; subst h1; subst h2
    show bindC kindOf ((p, w) :: P.zip vs) m p = _
    unfold bindC
    rw [bindC_out fun v hv => (List.nodup_cons.mp nd).1 (List.of_mem_zip hv).1, if_neg hk]
    simp
  | p :: P, w :: vs, i + 1, m, nd, h1, h2, hk => by
    show bindC kindOf ((p, w) :: P.zip vs) m x = _
    unfold bindC
    exact bindC_get (i := i) (List.nodup_cons.mp nd).2 (by simpa using h1) (by simpa using h2) hk

/-- the names' values at the entry -/
def start (N : List Str) (vs : List V) : St := vs.map some ++ List.replicate (N.length - vs.length) none

/-- the context of a def's body, at its entry; an exception leaves the frame, then lies as CX says -/
def cxOf (CX : CXT) (P : Program) (w : World) (K : PySem.W.Frag) (mg : Str → Option Value) (base : Heap) (N : List Str) (qual : Str) (scope : Scope) (f : Addr) (cd : Value) (A : Around) (outer : List Env) (s : Shared) (H : Hp) (E : XK) : Cx where
  prog := P
  w := w
  K := K
  mg := mg
  base := base
  A := A.deeper (envOfC qual scope s.heap.objs.size f cd)
  N := N
  s₀ := s
  H₀ := H
  env := envOfC qual scope s.heap.objs.size f cd
  outer := outer
  stack := envOfC qual scope s.heap.objs.size f cd :: outer
  ex := []
  calm := true
  fn := fun _ => true
  pn := []
  xe := fun e s' => wpAny (model P w) (A.deeper (envOfC qual scope s.heap.objs.size f cd)) (leaving (envOfC qual scope s.heap.objs.size f cd) e) (fun _ s'' => CX outer H s E e s'') (fun e' s'' => CX outer H s E e' s'') s'

theorem cell_has {sc : Scope} {n : Nat} {x : Str} (h : sc.names.lookup x = some .cell) : ∃ c, (cellsFrom n sc.names []).lookup x = some c := by
  have q := PySem.W.cellsFrom_some sc.names n [] (.inl h)
  exact Option.isSome_iff_exists.mp q

theorem inv_start {CX : CXT} {P : Program} {w : World} {K : PySem.W.Frag} {mg : Str → Option Value} {base : Heap} {N ps : List Str} {qual : Str} {scope : Scope} {f : Addr} {cd : Value} {A : Around} {outer : List Env} {s s1 : Shared} {H : Hp} {E : XK} {us : List Value} {vs : List V}
    (S : FnScope N ps scope) (hd : A.handled = none) (e0 : Env0 P w K mg base A outer s H) (hl : vs.length = ps.length) (r : Vals vs us)
    (x : InCallC s s.heap.objs.size (bindL (envOfC qual scope s.heap.objs.size f cd).kindOf (ps.zip us) fun _ => none) (cellsFrom (s.heap.objs.size + 1) scope.names []) (bindC (envOfC qual scope s.heap.objs.size f cd).kindOf (ps.zip us) fun _ => none) s1) :
    Inv (cxOf CX P w K mg base N qual scope f cd A outer s H E) [] (start N vs) H s1 := by
  have hpl : ps.length ≤ N.length := by have := congrArg List.length S.pre; rw [List.length_take] at this; omega
  obtain ⟨h1, tk, rfl, hk⟩ := x.done
  have noA : ∀ b : Addr, b ∉ (cxOf CX P w K mg base N qual scope f cd A outer s H E).ex := fun b z => absurd (show b ∈ ([] : List Addr) from z) (by simp)
  refine ⟨⟨e0.mod, S.kind, rfl, rfl, Nat.le_refl _, fun y z c h1 h2 => ?_, fun y hy => ?_, fun y c _ h => ?_, fun _ => hd, Around.frames_deeper e0.frames, .inr ⟨rfl, rfl⟩, fun b z => absurd z (noA b), e0.bs, e0.bsz, fun b _ _ => noA b, fun b z => absurd z (noA b), e0.funs, e0.frf⟩,
    rfl, e0.bare, Un.kept hk, ⟨_, x.toInCall.ns, fun i y v h1 h2 h3 => ?_⟩, fun y c h => ⟨_, x.cell y c h⟩, e0.hok.fresh (Nat.le_refl _), fun y c h => ?_, fun p hp => absurd (show p ∈ ([] : List (Addr × Obj)) from hp) (by simp), e0.hok.kept hk, ?_⟩
  · exact name_of_addr x.apart (PySem.mem_of_lookup h1) (PySem.mem_of_lookup h2)
  · have hy : scope.names.lookup y = some .cell ∨ scope.names.lookup y = some .free := hy
    rcases hy with hy | hy
    · exact cell_has hy
    · exact absurd rfl (S.nofree _ (PySem.mem_of_lookup hy))
  · exact Nat.le_of_lt (x.above y c (PySem.mem_of_lookup h))
  · have hi : i < vs.length := by
      unfold start at h2
      by_cases hi : i < vs.length
      · exact hi
      · rw [List.getElem?_append_right (by simpa using hi)] at h2
        rw [List.getElem?_replicate] at h2
        split at h2 <;> cases h2
    have ha : vs[i]? = some v := by
      unfold start at h2
      rw [List.getElem?_append_left (by simpa using hi), List.getElem?_map] at h2
      cases e : vs[i]? with
      | none => rw [e] at h2; cases h2
      | some a => rw [e] at h2; cases h2; rfl
    obtain ⟨u, hu, rv⟩ := r.get ha
    have hp : ps[i]? = some y := by
      rw [← S.pre, List.getElem?_take_of_lt (by omega)]; exact h1
    have ndP : ps.Nodup := by rw [← S.pre]; exact S.nd.sublist (List.take_sublist _ _)
    refine ⟨u, rv, ?_⟩
    rcases S.par y (List.mem_of_getElem? hp) with k | k
    · exact .inl ⟨k, bindL_get ndP hp hu k⟩
    · obtain ⟨c, e⟩ := cell_has (n := s.heap.objs.size + 1) k
      refine .inr ⟨.inl k, c, e, ?_⟩
      have q := x.cell y c e
      rw [bindC_get ndP hp hu (by show scope.names.lookup y ≠ _; rw [k]; decide)] at q
      exact q
  · exact e0.hok.fresh (Nat.le_of_lt (x.above y c (PySem.mem_of_lookup h)))
  · unfold start
    show _ = N.length
    rw [List.length_append, List.length_map, List.length_replicate]
    omega

/-- THE RULE: a def (or a method) of the text, by its body. The body's reading t is chosen for each entry; it is run at the parameters' values -/
theorem fn_of {CX : CXT} {P : Program} {w : World} {K : PySem.W.Frag} {mg : Str → Option Value} {base : Heap} {k : Nat} {f : Addr} {name qual : Str} {params : Arguments} {body : List Stmt} {scope : Scope} {dV kV doc pm cdv ct oc : Value} {an od : Option Addr}
    {osl : Array (Option Value)} {N ps : List Str} {sp : Sp} (lk : K.lookup f = some ⟨oc, od, .func (PySem.W.fnOf name qual params body scope dV kV doc pm an cdv ct), osl⟩) (hcd : PySem.W.codeIn K cdv qual = true) (S : FnScope N ps scope)
    (len : ∀ vs H Q E, sp vs H Q E → vs.length = ps.length)
    (hbody : ∀ (A : Around) (outer : List Env) (s : Shared) (H : Hp) (vs : List V) (Q : VK) (E : XK), Room k (A.deeper (envOfC qual scope s.heap.objs.size f cdv)) → sp vs H Q E →
      ∃ t, PSs (cxOf CX P w K mg base N qual scope f cdv A outer s H E) body t ∧ t { nx := fun _ H' => Q .non H', rt := Q } (start N vs) H) :
    FnOk P w K mg base CX (k + 1) f (PySem.W.fnOf name qual params body scope dV kV doc pm an cdv ct) ps sp := by
  refine ⟨len, fun A outer s H args us vs Q E hr e0 hb r hsp => ?_⟩
  have hl := len _ _ _ _ hsp
  have KX : K.In s.heap := e0.mod.kin.keeps fun b o e => (e0.bs b o e).1
  have lim : s.heap.NoLimit := e0.mod.nolimit.keeps fun b o e => (e0.bs b o e).1
  have hkind : ∀ y ∈ ps.zip us, scope.names.lookup y.1 = some .local ∨ (scope.names.lookup y.1 = some .cell ∧ ((cellsFrom (s.heap.objs.size + 1) scope.names []).lookup y.1).isSome = true) := fun ⟨n, v⟩ hy => by
    rcases S.par n (List.of_mem_zip hy).1 with q | q
    · exact .inl q
    · exact .inr ⟨q, PySem.W.cellsFrom_some _ _ _ (.inl q)⟩
  refine codeAny_call_function hr.depth (KX _ _ lk) rfl S.co S.gen rfl (PySem.W.codeRec_of KX hcd) (hb _ _ _ _ ?_)
  refine wpAny_newFunctionEnv_cells S.kind hkind fun env he s1 x => ?_
  subst he
  refine ⟨lim.keeps x.toInCall.keep, codeAny_func ?_⟩
  obtain ⟨t, ht, hq⟩ := hbody A outer s H vs Q E (hr.deeper _) hsp
  have I : Inv (cxOf CX P w K mg base N qual scope f cdv A outer s H E) [] (start N vs) H s1 := inv_start S hr.hd e0 hl r x
  refine wpAny_mono (ht [] s1 (start N vs) H _ I hq) (fun fl s' hs => ?_) fun e s' hs => hs
  have fin : ∀ {σ' : St} {H' : Hp} {v : V} {u : Value}, Inv (cxOf CX P w K mg base N qual scope f cdv A outer s H E) [] σ' H' s' → RelV v u → Q v H' → CE outer P w H s Q u s' :=
    fun {σ' H' v u} J rv q => ⟨v, H', J.os, J.bare, J.base, J.hok, rv, q⟩
  cases fl with
  | ret u =>
    obtain ⟨v, σ', H', J, rv, q⟩ := hs
    exact fin J rv q
  | next =>
    obtain ⟨σ', H', J, q⟩ := hs
    exact fin (v := V.non) (u := Value.none) J rfl q
  | brk =>
    obtain ⟨_, _, _, q⟩ := hs
    exact False.elim q
  | cont =>
    obtain ⟨_, _, _, q⟩ := hs
    exact False.elim q
end L2

namespace L2
open PySem PySem.Spec PyProof.Rows
section
variable {X : Cx} {x : Str} {p pos : Pos} {e : Expr} {es : List Expr} {t : TA} {id T : String} {r : List V → Hp → VK → Prop}

def tCB (r : List V → Hp → VK → Prop) (t : TA) : TE := fun σ H Q => t σ H fun vs H1 => r vs H1 Q
/-- f(e, ..), f a built-in function -/
theorem pe_callB (hc : CallR X (.builtin id) r) (hg : Gl X x) (hm : X.mg x = none) (hv : bootBuiltins x = some (.builtin id)) (ha : PA X (e :: es) t) (hn : x ≠ "__name__" := by decide) (hdb : (x == ("__debug__" : Str)) = false := by decide)
    (he : starEach (e :: es) X.env = (false, eval e X.env) :: starEach es X.env := by rfl) (hpl : (backTo pos (starEach es X.env)).any (·.1) = false := by rfl) : PE X (.Call (.Name x p) (e :: es) [] pos) (tCB r t) := by
  intro pins s σ H Q I h
  refine wpAny_Call_Name_kw (ld_blt I hg hm hv ?_ hn hdb)
  exact PyProof.Rows.callWith_builtin1 (thn (ha pos pins s σ H _ I h) fun us s1 ⟨vs, H1, I1, r1, q1⟩ => hc pins s1 σ H1 vs us Q I1 r1 q1) he hpl
/-- T(e, ..), T a built-in type -/
theorem pe_callTy (hc : CallR X (.type T) r) (hg : Gl X x) (hm : X.mg x = none) (hv : bootBuiltins x = some (.type T)) (ha : PA X (e :: es) t) (hn : x ≠ "__name__" := by decide) (hdb : (x == ("__debug__" : Str)) = false := by decide)
    (he : starEach (e :: es) X.env = (false, eval e X.env) :: starEach es X.env := by rfl) (hpl : (backTo pos (starEach es X.env)).any (·.1) = false := by rfl) : PE X (.Call (.Name x p) (e :: es) [] pos) (tCB r t) := by
  intro pins s σ H Q I h
  refine wpAny_Call_Name_kw (ld_blt I hg hm hv ?_ hn hdb)
  exact PyProof.Rows.callWith_type1 (thn (ha pos pins s σ H _ I h) fun us s1 ⟨vs, H1, I1, r1, q1⟩ => hc pins s1 σ H1 vs us Q I1 r1 q1) he hpl
end
end L2

namespace HT
open PySem PyProof.Rows

section
open PySem.SeqAt
open PySem.AutoSeq1 (wpAny_loadPart')
open PySem.MeetsSeq PySem.MeetsSeq2 PySem.MeetsSeq3

end

section
variable {prog : Program} {w : World} {A : Around} {E : Value → Shared → Prop} {s : Shared}

/-- t + u, t not empty -/
theorem cat_tup {t b : Addr} {vs ws : List Value} {Q : Value → Shared → Prop} (ht : IsTup s.heap t vs.toArray) (hb : IsTup s.heap b ws.toArray) (hv : vs ≠ [])
    (h1 : ws = [] → Q (.ref t) s) (h2 : ws ≠ [] → Q (.ref s.heap.objs.size) { s with heap := s.heap.push { cls := .type "tuple", data := .seq (vs ++ ws).toArray } })
    (hsz : vs.length + ws.length ≤ sizeLine) : wpAny (model prog w) A (binaryOp .Add (.ref t) (.ref b)) Q E s := by
  obtain ⟨⟨cls, dd, data, sl⟩, ho, hc, n, hd⟩ := id ht
  obtain ⟨⟨cls2, dd2, data2, sl2⟩, ho2, hc2, n2, hd2⟩ := id hb
  simp only at hc hd hc2 hd2
  subst hc hd hc2 hd2
  have e : vs.toArray ++ ws.toArray = (vs ++ ws).toArray := by simp
  by_cases hw : ws = []
  · exact concat_meets ⟨_, ho, rfl⟩ ⟨_, ho2, rfl⟩ noFill_tuple_add seq_tuple_add PySem.F.slot_tuple_add PySem.F.entry_tuple_add (PySem.F.args_tuple_add_2 _ _)
      (tuple_addW1 t b vs.toArray ws.toArray n n2 dd dd2 sl sl2 (by simpa using hv) (by simp [hw])) ⟨ho, ho2, h1 hw⟩
  · refine concat_meets ⟨_, ho, rfl⟩ ⟨_, ho2, rfl⟩ noFill_tuple_add seq_tuple_add PySem.F.slot_tuple_add PySem.F.entry_tuple_add (PySem.F.args_tuple_add_2 _ _)
      (tuple_addW2 t b vs.toArray ws.toArray n n2 dd dd2 sl sl2 (by simpa using hv) (by simpa using hw) (by rw [List.size_toArray, List.size_toArray]; exact hsz)) ⟨ho, ho2, ?_⟩
    rw [e]
    exact h2 hw

/-! ### t[a:b], not the whole -/
/-- a slice's bound as a place among n (d where it is left out) -/
def sIx (n d : Nat) : Option Int → Nat
  | none => d
  | some v => if v < 0 then (v + (n : Int)).toNat else min v.toNat n
theorem sIx_none (n d : Nat) : sIx n d none = d := rfl
theorem sIx_nat (n d k : Nat) : sIx n d (some (k : Int)) = min k n := by
  show (if (k : Int) < 0 then ((k : Int) + (n : Int)).toNat else min (k : Int).toNat n) = min k n
  rw [if_neg (by omega), Int.toNat_natCast]
theorem sIx_le (n d : Nat) (hd : d ≤ n) (o : Option Int) : sIx n d o ≤ n := by
  cases o with
  | none => exact hd
  | some v =>
    show (if v < 0 then (v + (n : Int)).toNat else min v.toNat n) ≤ n
    by_cases hv : v < 0
    · rw [if_pos hv]; omega
    · rw [if_neg hv]; exact Nat.min_le_right _ _
end
end HT

namespace L2
open PySem PySem.Spec PyProof.Rows

/-! ### the parts of a slice -/
abbrev TO := St → Hp → (Option Int → Hp → Prop) → Prop
/-- a slice's part (left out, or an int) -/
def PO (X : Cx) (e : Option Expr) (t : TO) : Prop :=
  ∀ (pins : List (Addr × Obj)) (s : Shared) (σ : St) (H : Hp) (Q : Option Int → Hp → Prop), Inv X pins σ H s → t σ H Q →
    wpAny (model X.prog X.w) X.A (evalPart e X.env) (fun u s' => ∃ o H', Inv X pins σ H' s' ∧ IsPart u o ∧ Q o H') X.xe s
def tNoPart : TO := fun _ H Q => Q none H
def tPart (t : TE) : TO := fun σ H Q => t σ H fun x H1 => ∃ i, x = .int i ∧ Q (some i) H1

theorem intsAre_of {ns : List Int} : ∀ {us : List Value}, Vals (ns.map V.int) us → IntsAre us ns := by
  induction ns with
  | nil => intro us r; rw [List.map_nil] at r; cases r; exact .nil
  | cons n ns ih =>
    intro us r
    rw [List.map_cons] at r
    cases r with
    | cons r1 r2 =>
      obtain ⟨t, e⟩ := r1
      subst e
      exact .cons n t (ih r2)

section
variable {X : Cx} {e : Expr} {te : TE} {lo hi : Option Expr} {tl th : TO} {pos p2 : Pos}

theorem po_none : PO X none tNoPart := by
  intro pins s σ H Q I h
  rw [evalPart_none]
  exact wpAny_pure ⟨none, H, I, .none, h⟩
theorem po_some (h : PE X e te) : PO X (some e) (tPart te) := by
  intro pins s σ H Q I hw
  rw [evalPart_some]
  refine thn (h pins s σ H _ I hw) fun u s1 ⟨x, H1, I1, r1, q1⟩ => ?_
  obtain ⟨i, rfl, q⟩ := q1
  obtain ⟨t, rfl⟩ := r1
  exact ⟨some i, H1, I1, .int i t, q⟩

/-- what a slice of a value is, by values: the slice object stands at sl -/
def SlR (X : Cx) (r : V → Option Int → Option Int → Hp → VK → Prop) : Prop :=
  ∀ (pins : List (Addr × Obj)) (s : Shared) (σ : St) (H : Hp) (x : V) (v vl vu : Value) (lo hi : Option Int) (sl : Addr) (Q : VK), Inv X pins σ H s → RelV x v → s.heap.IsSliceOf sl vl vu .none → IsPart vl lo → IsPart vu hi → r x lo hi H Q →
    ∃ T id, typeLookup (.type T) "__getitem__" = pure (some (.builtin id)) ∧ s.TypeIs v T ∧ wpAny (model X.prog X.w) X.A (getItem v (.ref sl)) (EP X pins σ Q) X.xe s
def tSl (r : V → Option Int → Option Int → Hp → VK → Prop) (te : TE) (tl th : TO) : TE := fun σ H Q => te σ H fun x H1 => tl σ H1 fun l H2 => th σ H2 fun u H3 => r x l u H3 Q
/-- a[lo:hi], any a -/
theorem pe_slice {r : V → Option Int → Option Int → Hp → VK → Prop} (hr : SlR X r) (he : PE X e te) (hl : PO X lo tl) (hu : PO X hi th) : PE X (.Subscript e (.Slice lo hi none p2) pos) (tSl r te tl th) := by
  intro pins s σ H Q I h
  refine Subscript_ (thn (he pins s σ H _ I h) fun v s1 ⟨x, H1, I1, r1, q1⟩ => ?_)
  refine wpAny_Slice (thn (hl pins s1 σ H1 _ I1 q1) fun vl s2 ⟨l, H2, I2, pl, q2⟩ => thn (hu pins s2 σ H2 _ I2 q2) fun vu s3 ⟨u, H3, I3, pu, q3⟩ => ?_)
  rw [evalPart_none]
  refine wpAny_pure ?_
  have I4 : Inv X pins σ H3 { s3 with heap := s3.heap.push { cls := .type "slice", data := .fields #[vl, vu, .none] } } := I3.kept (t' := s3.toks) fun b ob q => Heap.get?_push_of_some _ q
  obtain ⟨T, id, hT, ht, hg⟩ := hr pins { s3 with heap := s3.heap.push { cls := .type "slice", data := .fields #[vl, vu, .none] } } σ H3 x v vl vu l u s3.heap.objs.size Q I4 r1 (Heap.IsSliceOf.new ..) pl pu q3
  show wpAny (model X.prog X.w) X.A (subscriptTail e (.Slice lo hi none p2) v (.ref s3.heap.objs.size)) (EP X pins σ Q) X.xe { s3 with heap := s3.heap.push { cls := .type "slice", data := .fields #[vl, vu, .none] } }
  exact tail_any (ops := [.ref s3.heap.objs.size, v]) ht hT hg (by with_unfolding_all rfl)

/-- the items of xs[lo:hi] -/
def cutV (xs : List V) (lo hi : Option Int) : List V := (xs.drop (HT.sIx xs.length 0 lo)).take (HT.sIx xs.length xs.length hi - HT.sIx xs.length 0 lo)
theorem cutV_length (xs : List V) (lo hi : Option Int) : (cutV xs lo hi).length ≤ xs.length := by
  unfold cutV
  rw [List.length_take, List.length_drop]
  omega
/-! ### t < u, t + u -/
/-- t + u, t not empty: u empty gives t itself -/
def rCatT (K : PySem.W.Frag) : R2 := fun x y H Q => ∃ a b xs ys, x = .ref a ∧ y = .ref b ∧ SqT K H a xs ∧ SqT K H b ys ∧ xs ≠ [] ∧ xs.length + ys.length ≤ sizeLine ∧
  (ys = [] → Q (.ref a) H) ∧ (ys ≠ [] → ∀ p, H p = none → Q (.ref p) (upd H p (.tup (xs ++ ys))))
theorem Vals.nil_iff {xs : List V} {us : List Value} (r : Vals xs us) : us = [] ↔ xs = [] := by
  cases r with
  | nil => simp
  | cons _ _ => simp
theorem op_catT : OpR X (binaryOp .Add) (rCatT X.K) := by
  intro pins s σ H x y v u Q I rx ry h
  obtain ⟨a, b, xs, ys, rfl, rfl, ha, hb, hx, hz, q1, q2⟩ := h
  cases rx
  cases ry
  obtain ⟨its, r1, p1, _⟩ := I.tuple ha
  obtain ⟨its2, r2, p2, _⟩ := I.tuple hb
  refine HT.cat_tup p1 p2 (fun z => hx (r1.nil_iff.mp z)) (fun z => ⟨.ref a, H, I, rfl, q1 (r2.nil_iff.mp z)⟩) (fun z => ?_) (by rw [← r1.length, ← r2.length]; exact hz)
  refine ⟨.ref s.heap.objs.size, _, I.laid (t' := s.toks) (o := .tup (xs ++ ys)) (fun b ob q => Heap.get?_push_of_some _ q) (Nat.le_refl _) ?_, rfl, q2 (fun w => z (r2.nil_iff.mpr w)) _ (I.hok.fresh (Nat.le_refl _))⟩
  exact ⟨by rw [List.length_append]; exact hz, _, r1.append r2, IsTup.new _ _⟩
end
end L2

namespace L2
open PySem PySem.Spec PyProof.Rows

/-! ### places -/
/-- the place that an index of any sign means -/
def ixN (n : Nat) (i : Int) : Option Nat := if 0 ≤ i then (if i < n then some i.toNat else none) else if -(n : Int) ≤ i then some (i + n).toNat else none
def atI {α : Type} (xs : List α) (i : Int) : Option α := (ixN xs.length i).bind fun j => xs[j]?
theorem ixN_seq {n : Nat} {i : Int} {j : Nat} (h : ixN n i = some j) : seqIndex? i n = some j ∧ j < n ∧ -(n : Int) ≤ i ∧ i < n := by
  unfold ixN at h
  by_cases h0 : 0 ≤ i
  · rw [if_pos h0] at h
    by_cases h1 : i < n
    · rw [if_pos h1] at h
      have e : i.toNat = j := Option.some.inj h
      exact ⟨by rw [seqIndex_of h0 h1, e], by omega, by omega, h1⟩
    · rw [if_neg h1] at h; cases h
  · rw [if_neg h0] at h
    by_cases h1 : -(n : Int) ≤ i
    · rw [if_pos h1] at h
      have e : (i + n).toNat = j := Option.some.inj h
      exact ⟨by rw [seqIndex_neg (by omega) h1, e], by omega, h1, by omega⟩
    · rw [if_neg h1] at h; cases h
theorem atI_get {α : Type} {xs : List α} {i : Int} {v : α} (h : atI xs i = some v) : ∃ j, seqIndex? i xs.length = some j ∧ xs[j]? = some v ∧ j < xs.length ∧ -(xs.length : Int) ≤ i ∧ i < xs.length := by
  unfold atI at h
  cases e : ixN xs.length i with
  | none => rw [e] at h; cases h
  | some j =>
    rw [e] at h
    obtain ⟨h1, h2, h3, h4⟩ := ixN_seq e
    exact ⟨j, h1, h, h2, h3, h4⟩
theorem atI_nat {α : Type} {xs : List α} {j : Nat} {v : α} (h : xs[j]? = some v) : atI xs (j : Int) = some v := by
  have hj : j < xs.length := (List.getElem?_eq_some_iff.mp h).1
  have e : ixN xs.length (j : Int) = some j := by
    unfold ixN
    rw [if_pos (by omega), if_pos (by omega)]; simp
  unfold atI; rw [e]; exact h
/-! ### what may be subscripted -/
/-- what stands as an index of a plain subscript -/
def PlainIx (b : Expr) : Prop := ∀ o i, subscripted b false o i = operate [o, i] (getItem o i)
/-- a subscript by values -/
def IxR (X : Cx) (r : R2) : Prop :=
  ∀ (value slice : Expr) (pins : List (Addr × Obj)) (s : Shared) (σ : St) (H : Hp) (x y : V) (v u : Value) (Q : VK), Inv X pins σ H s → RelV x v → RelV y u → r x y H Q →
    subscripted slice false v u = operate [v, u] (getItem v u) → wpAny (model X.prog X.w) X.A (subscriptTail value slice v u) (EP X pins σ Q) X.xe s
/-- a call of a builtin's method by values: the receiver, the arguments -/
def MtR (X : Cx) (id : String) (r : V → List V → Hp → VK → Prop) : Prop :=
  ∀ (pins : List (Addr × Obj)) (s : Shared) (σ : St) (H : Hp) (x : V) (xs : List V) (v : Value) (us : List Value) (Q : VK), Inv X pins σ H s → RelV x v → Vals xs us → r x xs H Q →
    wpAny (model X.prog X.w) X.A (call (.builtin id) (v :: us)) (EP X pins σ Q) X.xe s
section
variable {X : Cx} {a b : Expr} {ta tb : TE} {pos : Pos}
/-- a[b] -/
theorem pe_ix {r : R2} (hr : IxR X r) (ha : PE X a ta) (hb : PE X b tb) (hs : PlainIx b) : PE X (.Subscript a b pos) (tOp r ta tb) := by
  intro pins s σ H Q I h
  exact Subscript_ (binT ha hb I h fun v u s2 x y H2 I2 rx ry q => hr a b pins s2 σ H2 x y v u Q I2 rx ry q (hs _ _))

def rIxL (K : PySem.W.Frag) : R2 := fun x y H Q => ∃ p xs i v, x = .ref p ∧ y = .int i ∧ SqL K H p xs ∧ atI xs i = some v ∧ Q v H
def rIxT (K : PySem.W.Frag) : R2 := fun x y H Q => ∃ p xs i v, x = .ref p ∧ y = .int i ∧ SqT K H p xs ∧ atI xs i = some v ∧ Q v H
def rIxS : R2 := fun x y H Q => ∃ z i c, x = .str z ∧ y = .int i ∧ z.length ≤ sizeLine ∧ atI z.cps.toList i = some c ∧ Q (.str ⟨#[c]⟩) H
theorem ix_list : IxR X (rIxL X.K) := by
  intro value slice pins s σ H x y v u Q I rx ry h hs
  obtain ⟨p, xs, i, z, rfl, rfl, hq, he, q⟩ := h
  cases rx
  obtain ⟨t, rfl⟩ := ry
  obtain ⟨its, r, pl, hz⟩ := I.list hq
  obtain ⟨j, h1, h2, h3, h4, h5⟩ := atI_get he
  obtain ⟨w, ew, rw'⟩ := r.get h2
  have hl := r.length
  have hn := line63
  have fin : EP X pins σ Q w s := ⟨z, H, I, rw', q⟩
  by_cases h0 : 0 ≤ i
  · have hj : i.toNat = j := by
      rw [seqIndex_of h0 h5] at h1
      exact Option.some.inj h1
    exact item_listR pl.isList h0 (by omega) (by rw [hj]; simpa using ew) fin hs
  · have hj : (i + (its.toArray.size : Int)).toNat = j := by
      rw [seqIndex_neg (by omega) h4] at h1
      rw [List.size_toArray, ← hl]
      exact Option.some.inj h1
    exact subscriptTail_builtinR (x := w) pl.isList.typeIs slot_list_getitem.lookup
      (wpAny_getItem_list_neg (Q := fun r s' => r = w ∧ EP X pins σ Q r s') pl.isList (by omega) (by rw [List.size_toArray] <;> omega) (by omega) (by rw [hj]; simpa using ew) ⟨rfl, fin⟩) hs
theorem ix_tup : IxR X (rIxT X.K) := by
  intro value slice pins s σ H x y v u Q I rx ry h hs
  obtain ⟨p, xs, i, z, rfl, rfl, hq, he, q⟩ := h
  cases rx
  obtain ⟨t, rfl⟩ := ry
  obtain ⟨its, r, pl, hz⟩ := I.tuple hq
  obtain ⟨j, h1, h2, h3, h4, h5⟩ := atI_get he
  obtain ⟨w, ew, rw'⟩ := r.get h2
  have hl := r.length
  have hn := line63
  have fin : EP X pins σ Q w s := ⟨z, H, I, rw', q⟩
  exact subscriptTail_builtinR (x := w) pl.typeIs slot_tuple_getitem.lookup
    (getItem_tuple (j := j) (Q := fun r s' => r = w ∧ EP X pins σ Q r s') pl (by omega) (by omega) (by rw [List.size_toArray, ← hl]; exact h1) (by simpa using ew) ⟨rfl, fin⟩) hs
theorem ix_str : IxR X rIxS := by
  intro value slice pins s σ H x y v u Q I rx ry h hs
  obtain ⟨z, i, c, rfl, rfl, hz, he, q⟩ := h
  obtain ⟨t, rfl⟩ := rx
  obtain ⟨t', rfl⟩ := ry
  obtain ⟨j, h1, h2, h3, h4, h5⟩ := atI_get he
  have hl : z.cps.toList.length = z.length := by simp [Str.length]
  rw [hl] at h1 h4 h5
  have hn := line63
  exact tail_any (typeIs_str s z t) slot_str_getitem.lookup (getItem_str (c := c) (by
    have e1 : decide (i < -(2 ^ 63 : Int)) = false := decide_eq_false (by omega)
    have e2 : decide (i ≥ 2 ^ 63) = false := decide_eq_false (by omega)
    rw [e1, e2, Bool.or_false]) (by rw [h1]; simpa using h2) ⟨.str ⟨#[c]⟩, H, I.tok _, ⟨_, rfl⟩, q⟩) hs
/-! ### xs[i] = v, any sign -/
/-- the list's object behind a store -/
theorem mapSeq_set (its : List Value) (n j : Nat) (u : Value) : Obj.mapSeq (·.setIfInBounds j u) { cls := .type "list", data := .seq its.toArray n } = { cls := .type "list", data := .seq (its.set j u).toArray n } := by
  simp [Obj.mapSeq]
theorem Inv.lst {pins : List (Addr × Obj)} {σ : St} {H : Hp} {s : Shared} {p : Addr} {xs : List V} (I : Inv X pins σ H s) (h : H p = some (.lst xs)) :
    ∃ (its : List Value) (n : Nat), Vals xs its ∧ s.heap.get? p = some { cls := .type "list", data := .seq its.toArray n } ∧ xs.length ≤ sizeLine := by
  obtain ⟨z, its, n, r, e⟩ := I.hok p _ h
  exact ⟨its, n, r, e, z⟩
/-- the list at p is written by an update of its object -/
theorem Inv.lstUpd {pins : List (Addr × Obj)} {σ : St} {H : Hp} {s : Shared} {p : Addr} {xs ys : List V} {its its' : List Value} {n n' : Nat} {f : Obj → Obj} (I : Inv X pins σ H s) (h : H p = some (.lst xs))
    (ho : s.heap.get? p = some { cls := .type "list", data := .seq its.toArray n }) (hf : f { cls := .type "list", data := .seq its.toArray n } = { cls := .type "list", data := .seq its'.toArray n' }) (r : Vals ys its') (hz : ys.length ≤ sizeLine) (t : Nat) :
    Inv X pins σ (upd H p (.lst ys)) { s with heap := s.heap.update p f, toks := t } := by
  have e : (s.heap.update p f).get? p = some { cls := .type "list", data := .seq its'.toArray n' } := by
    rw [Heap.get?_update_self f ho (by rw [hf] <;> rfl), hf]
  refine I.write (x := p) (e := p) (by rw [h]; trivial) (.inl rfl) (fun b u hb q => (Heap.get?_update_other _ _ (Ne.symm hb)).trans q) ⟨_, e⟩ ?_
  exact ⟨hz, its', n', r, e⟩
def rSetL : V → V → V → Hp → (Hp → Prop) → Prop := fun o i v H Q => ∃ p xs k j, o = .ref p ∧ i = .int k ∧ H p = some (.lst xs) ∧ ixN xs.length k = some j ∧ Q (upd H p (.lst (xs.set j v)))
theorem set_list : PSet X rSetL := by
  intro pins s σ H o i v ov iv u Q I ro ri rv h
  obtain ⟨p, xs, k, j, rfl, rfl, hp, hj, q⟩ := h
  cases ro
  obtain ⟨t, rfl⟩ := ri
  obtain ⟨its, n, r, ho, hz⟩ := I.lst hp
  obtain ⟨h1, h2, h3, h4⟩ := ixN_seq hj
  have hl := r.length
  have hn := line63
  have I' : Inv X pins σ (upd H p (.lst (xs.set j v))) { s with heap := s.heap.update p (Obj.mapSeq (·.setIfInBounds j u)) } :=
    I.lstUpd hp ho (mapSeq_set its n j u) (r.set rv j) (by rw [List.length_set]; exact hz) s.toks
  by_cases h0 : 0 ≤ k
  · have hk : k.toNat = j := by
      rw [seqIndex_of h0 h4] at h1
      exact Option.some.inj h1
    exact PySem.W.ki_setAt ho h0 (by omega) (by rw [List.size_toArray, ← hl]; exact h4) (by rw [hk]; exact ⟨_, I', q⟩)
  · have hk : (k + (its.toArray.size : Int)).toNat = j := by
      rw [seqIndex_neg (by omega) h3] at h1
      rw [List.size_toArray, ← hl]
      exact Option.some.inj h1
    exact PySem.W.ki_setBack ho (by omega) (by rw [List.size_toArray, ← hl]; exact h3) (by omega) (by rw [hk]; exact ⟨_, I', q⟩)

/-! ### slices -/
theorem slice_bounds (lo hi : Option Int) (n : Nat) : (sliceBounds lo hi none n).1 = ((HT.sIx n 0 lo : Nat) : Int) ∧ (sliceBounds lo hi none n).2.1 = ((HT.sIx n n hi : Nat) : Int) ∧ (sliceBounds lo hi none n).2.2 = 1 := by
  refine ⟨?_, ?_, rfl⟩
  · cases lo with
    | none => simp [sliceBounds, HT.sIx]
    | some i =>
      simp only [sliceBounds, HT.sIx, Option.getD_none, show (1 : Int) > 0 by decide, if_true]
      by_cases h : i < 0
      · simp only [h, if_true] <;> omega
      · simp only [h, if_false] <;> omega
  · cases hi with
    | none => simp [sliceBounds, HT.sIx]
    | some i =>
      simp only [sliceBounds, HT.sIx, Option.getD_none, show (1 : Int) > 0 by decide, if_true]
      by_cases h : i < 0
      · simp only [h, if_true] <;> omega
      · simp only [h, if_false] <;> omega
theorem slicePick_cut (its : List Value) (lo hi : Option Int) : slicePick its.toArray lo hi none = ((its.drop (HT.sIx its.length 0 lo)).take (HT.sIx its.length its.length hi - HT.sIx its.length 0 lo)).toArray := by
  obtain ⟨h1, h2, h3⟩ := slice_bounds lo hi its.toArray.size
  unfold slicePick
  rw [h1, h2, h3]
  simp only [sliceRange_one, pick_run, List.size_toArray] <;> rfl
/-- xs[lo:hi] of a list: a new list -/
def rSlL (K : PySem.W.Frag) : V → Option Int → Option Int → Hp → VK → Prop := fun x lo hi H Q => ∃ a xs, x = .ref a ∧ SqL K H a xs ∧ ∀ p, H p = none → Q (.ref p) (upd H p (.lst (cutV xs lo hi)))
theorem sl_list : SlR X (rSlL X.K) := by
  intro pins s σ H x v vl vu lo hi sl Q I rx hs pl pu h
  obtain ⟨a, xs, rfl, hx, q⟩ := h
  cases rx
  obtain ⟨its, r, ht, hz⟩ := I.list hx
  have hlen := r.length
  refine ⟨"list", _, slot_list_getitem.lookup, ht.isList.typeIs, ?_⟩
  refine wpAny_getItem_list_slice ht.isList hs pl pu .none (by simp) ?_ (by rw [List.size_toArray] <;> omega)
  rw [slicePick_cut, ← hlen]
  refine ⟨.ref s.heap.objs.size, _, I.laid (t' := s.toks) (o := .lst (cutV xs lo hi)) (fun b ob q => Heap.get?_push_of_some _ q) (Nat.le_refl _) ?_, rfl, q _ (I.hok.fresh (Nat.le_refl _))⟩
  exact ⟨Nat.le_trans (cutV_length xs lo hi) hz, _, 0, (r.drop (HT.sIx xs.length 0 lo)).take (HT.sIx xs.length xs.length hi - HT.sIx xs.length 0 lo), Heap.get?_push_size _ rfl⟩

/-! ### in, not in: flat items -/
/-! ### len, list(x), tuple(x) of any list or tuple that is read -/
theorem call_len_seq : CallR X (.builtin "len") (fun xs H Q => ∃ p ys, xs = [.ref p] ∧ (SqL X.K H p ys ∨ SqT X.K H p ys) ∧ Q (.int ys.length) H) := by
  intro pins s σ H xs us Q I r h
  obtain ⟨p, ys, rfl, hq, q⟩ := h
  obtain ⟨u, rfl, rx⟩ := vals1 r
  cases rx
  have hn := line63
  rcases hq with hq | hq
  · obtain ⟨its, r', pl, hz⟩ := I.list hq
    have hlen := r'.length
    exact Calls.call_len_list pl.isList (by simp only [List.size_toArray] <;> omega) ⟨.int ys.length, H, I.tok _, ⟨s.toks + 1, by rw [List.size_toArray, hlen]⟩, q⟩
  · obtain ⟨its, r', pl, hz⟩ := I.tuple hq
    have hlen := r'.length
    exact len_tuple pl (by simp only [List.size_toArray] <;> omega) ⟨.int ys.length, H, I.tok _, ⟨s.toks + 1, by rw [List.size_toArray, hlen]⟩, q⟩
theorem call_len_str : CallR X (.builtin "len") (fun xs H Q => ∃ z, xs = [.str z] ∧ z.length ≤ sizeLine ∧ Q (.int z.length) H) := by
  intro pins s σ H xs us Q I r h
  obtain ⟨z, rfl, hz, q⟩ := h
  obtain ⟨u, rfl, t, rfl⟩ := vals1 r
  have hn := line63
  exact len_str (by omega) ⟨.int z.length, H, I.tok _, ⟨_, rfl⟩, q⟩
theorem call_tuple_of : CallR X (.type "tuple") (fun xs H Q => ∃ p ys, xs = [.ref p] ∧ ((SqL X.K H p ys ∧ ∀ l, H l = none → Q (.ref l) (upd H l (.tup ys))) ∨ (SqT X.K H p ys ∧ Q (.ref p) H))) := by
  intro pins s σ H xs us Q I r h
  obtain ⟨p, ys, rfl, h⟩ := h
  obtain ⟨u, rfl, rx⟩ := vals1 r
  cases rx
  rcases h with ⟨hq, q⟩ | ⟨hq, q⟩
  · obtain ⟨its, r', pl, hz⟩ := I.list hq
    have hlen := r'.length
    refine call_tuple_list pl.isList (fun h' kp => ?_) (by simp only [List.size_toArray] <;> omega)
    have I1 : Inv X pins σ H { s with heap := h' } := I.kept (t' := s.toks) kp
    have I2 : Inv X pins σ (upd H h'.objs.size (.tup ys)) { s with heap := h'.push { cls := .type "tuple", data := .seq its.toArray } } :=
      I1.laid (t' := s.toks) (fun b o e => Heap.get?_push_of_some _ e) (Nat.le_refl _) (show ObjOk X.prog X.w _ _ _ (.tup ys) from ⟨hz, its, r', IsTup.new _ _⟩)
    exact ⟨.ref h'.objs.size, _, I2, rfl, q _ (I1.hok.fresh (Nat.le_refl _))⟩
  · obtain ⟨its, r', pl, hz⟩ := I.tuple hq
    exact call_tuple_same pl ⟨.ref p, H, I, rfl, q⟩

/-! ### the call of a builtin's method: o.m(..) -/
/-- the value is of that builtin type -/
def tyV (K : PySem.W.Frag) (T : String) (x : V) (H : Hp) : Prop := match x with
  | .str _ => T = "str"
  | .int _ => T = "int"
  | .ref p => (T = "list" ∧ ∃ xs, SqL K H p xs) ∨ (T = "tuple" ∧ ∃ o, K.lookup p = some o ∧ o.cls = .type "tuple" ∧ o.dict = none) ∨
      (T = "dict" ∧ ((∃ kvs, H p = some (.dK kvs)) ∨ ∃ kvs, H p = some (.dT kvs))) ∨ (T = "set" ∧ ∃ S n, H p = some (.set S n))
  | _ => False
theorem tyV_is {pins : List (Addr × Obj)} {σ : St} {H : Hp} {s : Shared} {T : String} {x : V} {v : Value} (I : Inv X pins σ H s) (r : RelV x v) (ty : tyV X.K T x H) :
    s.TypeIs v T ∧ ∀ a, v = .ref a → ∃ ob, s.heap.get? a = some ob ∧ ob.dict = none := by
  cases x with
  | str z =>
    obtain ⟨t, rfl⟩ := r
    cases (show T = "str" from ty)
    exact ⟨typeIs_str s z t, fun _ e => nomatch e⟩
  | int i =>
    obtain ⟨t, rfl⟩ := r
    cases (show T = "int" from ty)
    exact ⟨typeIs_int s i t, fun _ e => nomatch e⟩
  | ref p =>
    cases r
    rcases ty with ⟨rfl, xs, hq⟩ | ⟨rfl, o, hk, hc, hd⟩ | ⟨rfl, hk⟩ | ⟨rfl, S, n, hk⟩
    · obtain ⟨its, _, pl, _⟩ := I.list hq
      refine ⟨pl.isList.typeIs, fun a e => ?_⟩
      cases e
      obtain ⟨o, n, e, c, hd, _⟩ := pl
      exact ⟨o, e, hd⟩
    · refine ⟨⟨o, I.kIn p o hk, hc⟩, fun a e => ?_⟩
      cases e
      exact ⟨o, I.kIn _ o hk, hd⟩
    · have z : ∃ o, s.heap.get? p = some o ∧ o.ExactDict := by
        rcases hk with ⟨kvs, hk⟩ | ⟨kvs, hk⟩
        · obtain ⟨_, _, _, _, o, _, _, e, ex, _⟩ := I.hok p _ hk
          exact ⟨o, e, ex⟩
        · obtain ⟨_, _, _, _, o, _, _, e, ex, _⟩ := I.hok p _ hk
          exact ⟨o, e, ex⟩
      obtain ⟨o, e, ex⟩ := z
      refine ⟨⟨o, e, ex.1⟩, fun a e2 => ?_⟩
      cases e2
      exact ⟨o, e, ex.2.1⟩
    · obtain ⟨o, _, _, _, e, ex, _⟩ := I.hok p _ hk
      refine ⟨⟨o, e, ex.1⟩, fun a e2 => ?_⟩
      cases e2
      exact ⟨o, e, ex.2.1⟩
  | _ => exact False.elim ty
def tBM0 (K : PySem.W.Frag) (T : String) (r : V → List V → Hp → VK → Prop) (to : TE) : TE := fun σ H Q => to σ H fun x H1 => tyV K T x H1 ∧ r x [] H1 Q
def tBM (K : PySem.W.Frag) (T : String) (r : V → List V → Hp → VK → Prop) (to : TE) (t : TA) : TE := fun σ H Q => to σ H fun x H1 => tyV K T x H1 ∧ t σ H1 fun xs H2 => r x xs H2 Q
variable {o e : Expr} {es : List Expr} {to : TE} {t : TA} {name : Str} {apos cpos : Pos} {T id : String} {r : V → List V → Hp → VK → Prop}
theorem pe_bm0 (pa : PlainAttrs T) (slot : Slot T name id) (hty : typeOf (.builtin id) = pure (.type "method_descriptor")) (hm : MtR X id r) (ho : PE X o to)
    (hbase : attributeBase o name X.env (eval o X.env) = eval o X.env := by rfl) (hline : (apos.endLine == cpos.line) = true := by rfl) : PE X (.Call (.Attribute o name apos) [] [] cpos) (tBM0 X.K T r to) := by
  intro pins s σ H Q I h
  refine wpAny_Call_method0_late hbase hline (thn (ho pins s σ H _ I h) fun v s1 ⟨x, H1, I1, r1, ty, q1⟩ => ?_)
  obtain ⟨h1, h2⟩ := tyV_is I1 r1 ty
  exact ⟨T, id, pa, slot, hty, h1, h2, Calls.callWith_builtin rfl (PySem.evalArgs_none (hm pins s1 σ H1 x [] v [] Q I1 r1 .nil q1))⟩
theorem pe_bm (pa : PlainAttrs T) (slot : Slot T name id) (hty : typeOf (.builtin id) = pure (.type "method_descriptor")) (hm : MtR X id r) (ho : PE X o to) (ha : PA X (e :: es) t)
    (hbase : attributeBase o name X.env (eval o X.env) = eval o X.env := by rfl)
    (hfew : ((backTo cpos (starEach (e :: es) X.env)).all (fun x => !x.1) && (backToKw cpos (keywordEach [] X.env)).all (fun x => x.1.isSome)
      && decide ((e :: es).length + ([] : List Keyword).length + (if ([] : List Keyword).isEmpty then 0 else 1) < 30)) = true := by rfl)
    (hline : (apos.endLine == cpos.line) = true := by rfl) (hs : starEach (e :: es) X.env = (false, eval e X.env) :: starEach es X.env := by rfl) (hplain : (backTo cpos (starEach es X.env)).any (·.1) = false := by rfl) :
    PE X (.Call (.Attribute o name apos) (e :: es) [] cpos) (tBM X.K T r to t) := by
  intro pins s σ H Q I h
  refine wpAny_Call_method_late hbase hfew hline rfl (thn (ho pins s σ H _ I h) fun v s1 ⟨x, H1, I1, r1, ty, q1⟩ => ?_)
  obtain ⟨h1, h2⟩ := tyV_is I1 r1 ty
  refine ⟨T, id, pa, slot, hty, h1, h2, ?_⟩
  have hA := ha cpos pins s1 σ H1 _ I1 q1
  rw [hs] at hA ⊢
  refine Calls.callWith_builtin (by show (false || (backTo cpos (starEach es X.env)).any (·.1)) = false; rw [hplain] <;> rfl) (Calls.evalArgs_plain ?_)
  exact thn hA fun us s2 ⟨vs, H2, I2, r2, q2⟩ => hm pins s2 σ H2 x vs v us Q I2 r1 r2 q2
/- xs.append(e), list.index on a module's tuple .. are MtR facts of 06m -/
end
end L2

namespace L2
open PySem PySem.Spec PyProof.Rows

def MtM (X : Cx) (id : String) (r : V → List V → Hp → VK → Prop) : Prop :=
  ∀ (pins : List (Addr × Obj)) (s : Shared) (σ : St) (H : Hp) (x : V) (xs : List V) (v : Value) (us : List Value) (Q : VK), Inv X pins σ H s → RelV x v → Vals xs us → r x xs H Q →
    wpAny (model X.prog X.w) X.A (call (.builtin id) (v :: us)) (EP X pins σ Q) X.xe s

/-! ### lists of values -/
theorem Vals.one : ∀ {x : V} {us : List Value}, Vals [x] us → ∃ u, us = [u] ∧ RelV x u
  | _, _, .cons r .nil => ⟨_, rfl, r⟩
theorem Vals.zero : ∀ {us : List Value}, Vals [] us → us = []
  | _, .nil => rfl
theorem Vals.dropLast {xs : List V} {us : List Value} (h : Vals xs us) : Vals xs.dropLast us.dropLast := by
  induction h with
  | nil => exact .nil
  | cons r t ih =>
    cases t with
    | nil => exact .nil
    | cons q t' => exact .cons r ih
theorem Vals.reverse {xs : List V} {us : List Value} (h : Vals xs us) : Vals xs.reverse us.reverse := by
  induction h with
  | nil => exact .nil
  | cons r t ih => rw [List.reverse_cons, List.reverse_cons]; exact Vals.append ih (.cons r .nil)
theorem erase_last {α : Type} (l : List α) : l.eraseIdx (l.length - 1) = l.dropLast := by
  induction l with
  | nil => rfl
  | cons a r ih =>
    cases r with
    | nil => rfl
    | cons b r =>
      have e : (a :: b :: r).length - 1 = ((b :: r).length - 1) + 1 := by
        have h1 : (a :: b :: r).length = r.length + 2 := rfl
        have h2 : (b :: r).length = r.length + 1 := rfl
        omega
      rw [e, List.eraseIdx_cons_succ, ih]
      all_goals rfl
section
variable {X : Cx} {pins : List (Addr × Obj)} {σ : St} {H : Hp} {s : Shared} {l b : Addr} {xs ys zs : List V}

/-! ### the two steps: a tracked list is rewritten, a new list is laid -/
theorem Inv.lset {its its' : List Value} {n : Nat} {f : Array Value → Array Value} {t' : Nat} (I : Inv X pins σ H s) (hH : H l = some (.lst xs))
    (e : s.heap.get? l = some { cls := .type "list", data := .seq its.toArray n }) (hf : f its.toArray = its'.toArray) (hv : Vals ys its') (hz : ys.length ≤ sizeLine) :
    Inv X pins σ (upd H l (.lst ys)) { s with heap := s.heap.update l (Obj.mapSeq f), toks := t' } := by
  have q := PySem.IsL.update e f
  rw [hf] at q
  refine I.write (x := l) (e := l) (by rw [hH]; exact trivial) (.inl rfl) (fun b' u hb hu => (Heap.get?_update_other s.heap (Obj.mapSeq f) (Ne.symm hb)).trans hu) ⟨_, q⟩ ?_
  exact ⟨hz, its', _, hv, q⟩
theorem Inv.lnew {its : List Value} {t' : Nat} (I : Inv X pins σ H s) (hv : Vals ys its) (hz : ys.length ≤ sizeLine) :
    Inv X pins σ (upd H s.heap.objs.size (.lst ys)) { s with heap := s.heap.push { cls := .type "list", data := .seq its.toArray }, toks := t' } :=
  I.laid (fun _ _ q => Heap.get?_push_of_some _ q) (Nat.le_refl _) ⟨hz, its, 0, hv, Heap.get?_push_size _ rfl⟩
theorem Inv.fresh (I : Inv X pins σ H s) : H s.heap.objs.size = none := I.hok.fresh (Nat.le_refl _)
theorem Inv.lstM (I : Inv X pins σ H s) (hH : H l = some (.lst xs)) : xs.length ≤ sizeLine ∧ ∃ (its : List Value) (n : Nat), Vals xs its ∧ xs.length = its.length ∧ s.heap.get? l = some { cls := .type "list", data := .seq its.toArray n } := by
  obtain ⟨z, its, n, r, e⟩ := I.hok l _ hH
  exact ⟨z, its, n, r, r.length, e⟩

theorem notLongL {n : Nat} (h : n ≤ sizeLine) : Builtin.List.listTooLong n = false := by
  unfold Builtin.List.listTooLong
  exact decide_eq_false (by omega)
end

section
variable {X : Cx}

/-! ### methods -/
def rAppend : V → List V → Hp → VK → Prop := fun x vs H Q => ∃ l xs y, x = .ref l ∧ vs = [y] ∧ H l = some (.lst xs) ∧ xs.length < sizeLine ∧ Q .non (upd H l (.lst (xs ++ [y])))
theorem mt_append : MtM X "list.append" rAppend := by
  intro pins s σ H x vs v us Q I rx rv h
  obtain ⟨l, xs, y, rfl, rfl, hH, hz, q⟩ := h
  cases rx
  obtain ⟨u, rfl, ru⟩ := rv.one
  obtain ⟨z, its, n, r, hl, e⟩ := I.lstM hH
  refine call_meets F.slot_list_append ⟨_, e, rfl⟩ F.entry_list_append (F.args_list_append_2 _ _) (PySem.list_append l its.toArray n u (by rw [List.size_toArray]; omega)) ⟨e, ?_⟩
  refine ⟨.non, _, I.lset (its' := its ++ [u]) hH e (by simp) (r.append (.cons ru .nil)) ?_, rfl, q⟩
  rw [List.length_append, List.length_singleton]
  omega

def rPop : V → List V → Hp → VK → Prop := fun x vs H Q => ∃ l xs y, x = .ref l ∧ vs = [] ∧ H l = some (.lst xs) ∧ xs[xs.length - 1]? = some y ∧ Q y (upd H l (.lst xs.dropLast))
theorem mt_pop : MtM X "list.pop" rPop := by
  intro pins s σ H x vs v us Q I rx rv h
  obtain ⟨l, xs, y, rfl, rfl, hH, hy, q⟩ := h
  cases rx
  have hus := rv.zero
  subst hus
  obtain ⟨z, its, n, r, hl, e⟩ := I.lstM hH
  obtain ⟨u, hu, ru⟩ := r.get hy
  have hy' : its.toArray[its.toArray.size - 1]? = some u := by
    show its.toArray[its.length - 1]? = some u
    rw [← Array.getElem?_toList, ← hl]
    exact hu
  refine call_meets F.slot_list_pop ⟨_, e, rfl⟩ F.entry_list_pop (F.args_list_pop_1 _) (MeetsSeq.list_pop_last l its.toArray n u hy' (by rw [List.size_toArray]; omega)) ⟨e, ?_⟩
  refine ⟨y, _, I.lset (its' := its.dropLast) hH e ?_ r.dropLast ?_, ru, q⟩
  · show its.toArray.eraseIdxIfInBounds (its.toArray.size - 1) = its.dropLast.toArray
    rw [List.size_toArray, List.eraseIdxIfInBounds_toArray, erase_last]
  · rw [List.length_dropLast]
    omega

/-! ### list + list, list += list, list * int -/
def rCat : R2 := fun x y H Q => ∃ l b xs zs, x = .ref l ∧ y = .ref b ∧ H l = some (.lst xs) ∧ H b = some (.lst zs) ∧ xs.length + zs.length ≤ sizeLine ∧ ∀ p, H p = none → Q (.ref p) (upd H p (.lst (xs ++ zs)))
theorem op_cat : OpR X (binaryOp .Add) rCat := by
  intro pins s σ H x y v u Q I rx ry h
  obtain ⟨l, b, xs, zs, rfl, rfl, hH, hB, hz, q⟩ := h
  cases rx
  cases ry
  obtain ⟨z, its, n, r, hl, e⟩ := I.lstM hH
  obtain ⟨z2, its2, n2, r2, hl2, e2⟩ := I.lstM hB
  refine PySem.P.add_list e e2 ?_ (by rw [List.size_toArray, List.size_toArray]; omega)
  have ea : its.toArray ++ its2.toArray = (its ++ its2).toArray := by simp
  rw [ea]
  exact ⟨.ref _, _, I.lnew (t' := s.toks) (r.append r2) (by rw [List.length_append]; omega), rfl, q _ I.fresh⟩
/-! ### del xs[i] -/
end

/-! ### xs[a:b] = ys -/
section
variable {prog : Program} {w : World} {A : Around} {E : Value → Shared → Prop} {s : Shared}
theorem splice_eq (its its2 : List Value) (a c : Nat) : its.toArray.extract 0 a ++ its2.toArray ++ its.toArray.extract c its.toArray.size = (its.take a ++ its2 ++ its.drop c).toArray := by
  apply Array.toList_inj.mp
  first
    | (simp
       exact List.take_of_length_le (by simp))
    | simp [List.take_of_length_le]
    | simp
set_option maxRecDepth 100000 in
end

section
variable {X : Cx}
end
end L2

namespace Att
open PySem PySem.W PySem.Calls PyProof.Rows

/-! ### the script -/
theorem ints_of_wellAll {P : Params} {h : Heap} : ∀ (ns : List Int) (vs : List Value), WellAll P h vs (ns.map WData.int) → IntsAre vs ns := by
  intro ns
  induction ns with
  | nil =>
    intro vs w
    rw [List.map_nil] at w
    cases w
    exact .nil
  | cons n ns ih =>
    intro vs w
    rw [List.map_cons] at w
    cases w with
    | cons a b =>
      cases a
      exact .cons _ _ (ih _ b)

theorem script_of {l : OpenLaw} {n : Nat} (hn : l.most = some n) {P : Params} {h : Heap} {args : List WData} {vals : List Value}
    (hpre : l.row.toRowW.claim.pre args = true) (hwl : WellAll P h vals args) :
    ∃ a vs ns, vals = [Value.ref a] ∧ args = [WData.list (ns.map WData.int)] ∧ h.get? a = some { cls := .type "list", data := .seq vs.toArray } ∧ IntsAre vs ns ∧ ns.length ≤ n := by
  have hsh : WShape.hasAll [] args [.list .int] = true := (pre_splitW hpre).1
  have hc : l.pre.holds [] { args := args } = true := (pre_splitW hpre).2
  obtain ⟨d, r, rfl, h1, h2⟩ := hasAllW_cons hsh
  obtain rfl := hasAllW_nil h2
  obtain ⟨xs, rfl, h3⟩ := hasW_list h1
  obtain ⟨ns, rfl⟩ := items_int h3
  have hlen : ns.length ≤ n := by
    unfold OpenLaw.pre at hc
    have h4 : (WTm.not (.lt (.lit (.int (n : Int))) (.len (.arg 0)))).holds [] { args := [.list (ns.map .int)] } = true := by
      have h4 := (holds_andW hc).1
      rw [hn] at h4
      exact h4
    have h5 := condW_of h4 (w_not (w_lt w_lit (w_len_list (w_arg rfl))))
    rw [List.length_map] at h5
    refine Nat.le_of_not_lt fun q => ?_
    have q' : (n : Int) < ((ns.length : Nat) : Int) := by omega
    first
      | (rw [decide_eq_true q'] at h5; exact absurd h5 (by decide))
      | (simp at h5; omega)
  cases hwl with
  | cons w1 w2 =>
    cases w2
    cases w1 with
    | list ho hall => exact ⟨_, _, ns, rfl, rfl, ho, ints_of_wellAll ns _ hall, hlen⟩

theorem post_true (l : OpenLaw) (args : List WData) : l.row.toRowW.claim.post args (.bool true) args = true :=
  postW_of (r := l.row.toRowW) (X := (true == true))
    (show WShape.has [] (.bool true) .bool = true by first | rfl | decide | simp [WShape.has, WShape.arms, WShape.armsAll])
    (show (WTm.eq .res (.lit (.bool true))).value [] { args := args, res := some (.bool true), after := args } = some (.bool (true == true)) from w_eq_bool (w_res rfl) w_lit) rfl

/-! ### the attachment: holds_open's last premise (the goal 'hc' behind k_head) from a wpAny of the law's body -/
/-- the same from a codeAny of the CALL (for a layer whose function contracts speak of calls) -/
theorem attach_call {l : OpenLaw} {n : Nat} {q : Program} {loose : List Str} {XP : (Str → Option Value) → Heap → Prop} {YP : World → Heap → Prop} {d : DefRec}
    (hn : l.most = some n) (hdf : d.params.defaults = [])
    (call : ∀ (w : World) (s₀ s₁ : Shared) (mg mb : Str → Option Value) (fa : Addr) (o : Obj) (pm cd doc : Value) (a : Addr) (vs : List Value) (ns : List Int),
      Ground q loose [] XP w s₀ mg mb s₁.heap → YP w s₁.heap →
      s₁.heap.get? fa = some o → o.data = .func (docDef d.name d.params d.body d.scope pm cd doc) → s₁.heap.CodeRec cd d.name → mg d.name = some (.ref fa) →
      s₁.heap.get? a = some { cls := .type "list", data := .seq vs.toArray } → IntsAre vs ns → ns.length ≤ n → s₁.gens = #[] →
      codeAny (model l.prog w) callerA (.call (.ref fa) ⟨[.ref a], []⟩) (fun r s' => r = .ok (.ret (.bool true)) ∧ OldK s₁.heap s'.heap ∧ s'.os = s₁.os ∧ AllBare s'.gens) s₁) :
    WalkO q loose XP YP l.row.toRowW d [] (fun f vs => PySem.call f vs) := by
  intro w s₀ s₁ mg mb G Y fa o pm cd doc dV kV ho hd hcd hD hmg hg args vals as hpre hlay hrd hwl hlo
  obtain rfl : dV = .none := Dflts.none hD hdf
  obtain rfl : kV = .none := Dflts.noKw hD
  obtain ⟨a, vs, ns, rfl, rfl, hobj, hints, hlen⟩ := script_of hn hpre hwl
  refine enter_call (codeAny_mono (call w s₀ s₁ mg mb fa o pm cd doc a vs ns G Y ho (fd_plain hd) hcd hmg hobj hints hlen hg) fun r s' hq => ?_)
  obtain ⟨rfl, h2, h3, h4⟩ := hq
  exact ⟨.inl ⟨.bool true, .bool true, [], rfl, fun _ => rfl, .bool true, post_true l _, fun _ => ⟨List.Pairwise.nil, fun _ hm => (nomatch hm)⟩⟩, h2, h3, h4⟩

/-! ### rules over ANY heap (no ledger) from facts about the written part K: the library's own take a ledger (News) for what they write -/
section
variable {prog : Program} {w : World} {A : Around} {E : Value → Shared → Prop} {s : Shared} {K : Frag}

/-! the whole heap as the ledger: makes every rule that writes through a ledger a rule over any heap -/
end
end Att

namespace L2
open PySem PySem.Spec PyProof.Rows

theorem vals_ints : ∀ {vs : List Value} {ns : List Int}, IntsAre vs ns → Vals (ns.map V.int) vs
  | _, _, .nil => .nil
  | _, _, .cons n t h => .cons ⟨t, rfl⟩ (vals_ints h)

/-- nothing is tracked but the script, known to the object (or it is an object of the module) -/
def Only (H : Hp) : Prop := ∀ b, H b = none ∨ ∃ o xs, H b = some (.frz o (.lst xs))

/-- THE HEAD: the law's promise, at the heap behind the top. F, the promise of the law's def, may use that base is part of the heap (so K.In base, base.Ns mainGlobals mg stand in Mod) -/
theorem law_call {P : Program} {w : World} {K : PySem.W.Frag} {mg mb : Str → Option Value} {CX : CXT} {k : Nat} {fa a : Addr} {fd : FuncData} {x : Str} {sp : Sp} {s₁ : Shared} {vs : List Value} {ns : List Int}
    (KX : K.In s₁.heap) (hns : s₁.heap.Ns mainGlobals mg) (hb : s₁.heap.Ns builtinsNs mb) (hbb : ∀ x : Str, x ≠ "__name__" → mb x = bootBuiltins x) (hlim : s₁.heap.NoLimit) (hg : s₁.gens = #[])
    (ha : s₁.heap.get? a = some { cls := .type "list", data := .seq vs.toArray }) (hi : IntsAre vs ns) (hl : ns.length ≤ sizeLine) (hr : Room k callerA)
    (F : ∀ base : Heap, K.In base → base.Ns mainGlobals mg → FnOk P w K mg base CX k fa fd [x] sp) (hbind : ∀ (s : Shared) (u : Value), BindsTo s fd ⟨[u], []⟩ [(x, u)])
    (hsp : ∀ H : Hp, Only H → SqL K H a (ns.map V.int) → sp [.ref a] H (fun v _ => v = .bl true) fun _ _ _ => False)
    (hCX : ∀ H e s', CX [] H s₁ (fun _ _ _ => False) e s' → False) :
    codeAny (model P w) callerA (.call (.ref fa) ⟨[.ref a], []⟩) (fun r s' => r = .ok (.ret (.bool true)) ∧ OldK s₁.heap s'.heap ∧ s'.os = s₁.os ∧ AllBare s'.gens) s₁ := by
  have rv := vals_ints hi
  have lenV := hi.length
  -- from an abstract heap in which nothing but the script may be tracked
  have core : ∀ H : Hp, Only H → SqL K H a (ns.map V.int) → HOk P w H s₁.heap → (∀ b, H b ≠ none → b = a) → (H a ≠ none → K.lookup a = none) →
      codeAny (model P w) callerA (.call (.ref fa) ⟨[.ref a], []⟩) (fun r s' => r = .ok (.ret (.bool true)) ∧ OldK s₁.heap s'.heap ∧ s'.os = s₁.os ∧ AllBare s'.gens) s₁ := by
    intro H hO hS hok hA hK
    have base_of : ∀ {b : Addr} {o : Obj}, s₁.heap.get? b = some o → H b = none → (hidT s₁.heap H).get? b = some o := fun e n => hidT_get e n
    have noA : ∀ {b : Addr} {o : Obj} {es : Array DictEntry} {ep : Nat}, s₁.heap.get? b = some o → o.data = .dict es ep → H b = none := fun {b o es ep} e d => by
      cases q : H b with
      | none => rfl
      | some u =>
        have e' : b = a := hA b (by rw [q]; simp)
        subst e'
        rw [ha] at e; cases e
        have d' : Data.seq vs.toArray _ = Data.dict es ep := d
        cases d'
    have nsK : ∀ {b : Addr} {m : Str → Option Value}, s₁.heap.Ns b m → (hidT s₁.heap H).Ns b m := fun {b m} ⟨o, es, ep, e, d, r⟩ => ⟨o, es, ep, base_of e (noA e d), d, r⟩
    have hKb : K.In (hidT s₁.heap H) := fun b o e => base_of (KX b o e) (by
      cases q : H b with
      | none => rfl
      | some u =>
        have e' : b = a := hA b (by rw [q]; simp)
        subst e'
        rw [hK (by rw [q]; simp)] at e; cases e)
    have hM : Mod K mg (hidT s₁.heap H) := ⟨hKb, nsK hns, ⟨mb, nsK hb, hbb⟩, let ⟨mc, h1, h2⟩ := hlim; ⟨mc, nsK h1, h2⟩⟩
    have e0 : Env0 P w K mg (hidT s₁.heap H) callerA [] s₁ H := ⟨rfl, hM, fun b o e => of_hidT e, Nat.le_of_eq (hidT_size _ _), trivial, fun b hb => absurd (show b ∈ ([] : List Addr) from hb) (by simp), hok, .of_eq hg⟩
    refine codeAny_mono ((F _ hKb (nsK hns)).run callerA [] s₁ H ⟨[.ref a], []⟩ [.ref a] [.ref a] _ _ hr e0 (hbind s₁ (.ref a)) (.cons rfl .nil) (hsp H hO hS)) fun r s' h => ?_
    cases r with
    | error e => exact (hCX H e s' h).elim
    | ok fl =>
      cases fl with
      | next => exact False.elim h
      | brk => exact False.elim h
      | cont => exact False.elim h
      | ret u =>
        obtain ⟨v, H', os, bare, un, hok', r', q⟩ := h
        have q' : v = .bl true := q
        subst q'
        obtain rfl : u = Value.bool true := r'
        refine ⟨rfl, OldK.of_keep fun b o e => ?_, os, bare⟩
        cases q : H b with
        | none => exact un.keep b o e q (by intro z; exact absurd (show b ∈ ([] : List Addr) from z) (by simp)) (by simp)
        | some u =>
          rcases hO b with z | ⟨ob, xs, z⟩
          · rw [q] at z; cases z
          · have z2 := un.frzs b ob _ z
            obtain ⟨e1, _⟩ := hok b _ z
            obtain ⟨e2, _⟩ := hok' b _ z2
            rw [e] at e1; cases e1
            exact e2
  cases hk : K.lookup a with
  | some o =>
    -- the script is one of the module's own objects
    have e := KX a o hk
    rw [ha] at e
    cases e
    refine core (fun _ => none) (fun _ => .inl rfl) (.inr ⟨_, vs.toArray, _, hk, rfl, rfl, rfl, by rw [List.size_toArray, lenV]; exact hl, by simpa using rv⟩) (fun b u z => by have z' : (none : Option HO) = some u := z; cases z') (fun b z => absurd rfl z) fun z => absurd rfl z
  | none =>
    refine core (fun b => if b = a then some (.frz { cls := .type "list", data := .seq vs.toArray } (.lst (ns.map V.int))) else none) (fun b => ?_) (.inl (.inr ⟨{ cls := .type "list", data := .seq vs.toArray }, if_pos rfl⟩)) (fun b u z => ?_) (fun b z => ?_) fun _ => hk
    · by_cases hb : b = a
      · exact .inr ⟨_, _, if_pos hb⟩
      · exact .inl (if_neg hb)
    · by_cases hb : b = a
      · have z' := (if_pos hb).symm.trans z
        cases z'
        subst hb
        exact ⟨ha, by rw [List.length_map]; exact hl, vs, _, rv, ha⟩
      · have z' := (if_neg hb).symm.trans z
        cases z'
    · by_cases hb : b = a
      · exact hb
      · exact absurd (if_neg hb) z
end L2

namespace L2
open PySem PySem.Spec PyProof.Rows

/-- the goal that k_head leaves (case hc), from the law's promise. F gives the function object fd (K's own) once, then the promise over every base -/
theorem walk_of {l : PySem.W.OpenLaw} {n k : Nat} {q : Program} {loose : List Str} {XP : (Str → Option Value) → Heap → Prop} {YP : World → Heap → Prop} {d : DefRec} {K : Params → PySem.W.Frag} {CX : World → CXT} {sp : World → Sp} {x : Str}
    (hn : l.most = some n) (hn2 : n ≤ sizeLine) (hdf : d.params.defaults = []) (hr : Room k callerA)
    (hY : ∀ (w : World) (h : Heap), YP w h → (K w.params).In h)
    (F : ∀ (w : World) (mg : Str → Option Value) (fa : Addr) (h : Heap), (K w.params).In h → h.Ns mainGlobals mg → mg d.name = some (.ref fa) →
      ∃ fd : FuncData, (∀ (s : Shared) (u : Value), BindsTo s fd ⟨[u], []⟩ [(x, u)]) ∧
        ∀ base : Heap, (K w.params).In base → base.Ns mainGlobals mg → FnOk l.prog w (K w.params) mg base (CX w) k fa fd [x] (sp w))
    (hsp : ∀ (w : World) (H : Hp) (a : Addr) (ns : List Int), ns.length ≤ n → Only H → SqL (K w.params) H a (ns.map V.int) → sp w [.ref a] H (fun v _ => v = .bl true) fun _ _ _ => False)
    (hCX : ∀ (w : World) (H : Hp) (s : Shared) (e : Value) (s' : Shared), CX w [] H s (fun _ _ _ => False) e s' → False) :
    PySem.W.WalkO q loose XP YP l.row.toRowW d [] (fun f vs => PySem.call f vs) := by
  refine Att.attach_call hn hdf fun w s₀ s₁ mg mb fa o pm cd doc a vs ns G Y ho hd hcd hmg hobj hints hlen hg => ?_
  have KX := hY w _ Y
  obtain ⟨fd, hb, hF⟩ := F w mg fa _ KX G.T.g hmg
  exact law_call KX G.T.g G.T.b G.T.builtins G.T.nolimit hg hobj hints (Nat.le_trans hlen hn2) hr hF hb (fun H hO hS => hsp w H a ns hlen hO hS) fun H e s' => hCX w H s₁ e s'
end L2

/-! SHORT WORDS over the layer: a def of the text, its body, what a loop and a test want. -/
namespace L2
open PySem PySem.Spec PyProof.Rows

/-! ### the text by places -/
/-- the j-th statement of a class's body -/
def inClass (s : Stmt) (j : Nat) : Stmt := match s with
  | .ClassDef _ _ _ body _ _ _ _ _ _ _ => body.getD j (.Pass ⟨0, 0, 0, 0⟩)
  | _ => .Pass ⟨0, 0, 0, 0⟩
def defArgs (s : Stmt) : Arguments := match s with
  | .FunctionDef _ a _ _ _ _ _ _ _ _ => a
  | _ => { posonlyargs := [], args := [], vararg := none, kwonlyargs := [], kw_defaults := [], kwarg := none, defaults := [] }
def defBody (s : Stmt) : List Stmt := match s with
  | .FunctionDef _ _ b _ _ _ _ _ _ _ => b
  | _ => []
def defScope (s : Stmt) : Scope := match s with
  | .FunctionDef _ _ _ _ _ _ sc _ _ _ => sc
  | _ => { kind := .function, names := [], isGenerator := false, isCoroutine := false }

/-! ### no exception leaves a def -/
abbrev CX0 : CXT := fun _ _ _ _ _ _ => False
abbrev E0 : XK := fun _ _ _ => False
theorem pass0 {X : Cx} : Passes CX0 X E0 := fun _ _ _ _ _ _ _ h => h.elim

/-! ### a def (or method) of the text as it stands behind the top -/
structure Fun (K : PySem.W.Frag) (x qual : Str) (st : Stmt) (f : Addr) (fd : FuncData) : Prop where
  ex : ∃ (oc : Value) (od : Option Addr) (kV doc pm : Value) (an : Option Addr) (cdv ct : Value) (osl : Array (Option Value)),
    fd = PySem.W.fnOf x qual (defArgs st) (defBody st) (defScope st) .none kV doc pm an cdv ct ∧ K.lookup f = some ⟨oc, od, .func fd, osl⟩ ∧ PySem.W.codeIn K cdv qual = true
  kp : PySem.W.keepIn K (.ref f) = true
section
variable {P : Program} {w : World} {K : PySem.W.Frag} {mg : Str → Option Value} {base : Heap}
/-- THE RULE for a def: its body as a term of rules, and the reading of that term -/
theorem Fun.ok {x qual : Str} {st : Stmt} {f : Addr} {fd : FuncData} {N ps : List Str} {k : Nat} {sp : Sp} (F : Fun K x qual st f fd) (S : FnScope N ps (defScope st)) (len : ∀ vs H Q E, sp vs H Q E → vs.length = ps.length)
    (hbody : ∀ (cdv : Value) (A : Around) (outer : List Env) (s : Shared) (H : Hp) (vs : List V) (Q : VK) (E : XK), Room k (A.deeper (envOfC qual (defScope st) s.heap.objs.size f cdv)) → sp vs H Q E →
      ∃ t, PSs (cxOf CX0 P w K mg base N qual (defScope st) f cdv A outer s H E).nox (defBody st) t ∧ t { nx := fun _ H' => Q .non H', rt := Q } (start N vs) H) : FnOk P w K mg base CX0 (k + 1) f fd ps sp := by
  obtain ⟨oc, od, kV, doc, pm, an, cdv, ct, osl, rfl, lk, hcd⟩ := F.ex
  refine fn_of lk hcd S len fun A outer s H vs Q E hr hsp => ?_
  obtain ⟨t, h, q⟩ := hbody cdv A outer s H vs Q E hr hsp
  exact ⟨t, h.nox, q⟩
/-- how its arguments bind (no defaults): h is «fun _ _ _ _ _ _ us hl => match us, hl with | [_, _], _ => rfl», one _ a parameter -/
theorem Fun.binds {x qual : Str} {st : Stmt} {f : Addr} {fd : FuncData} {ps : List Str} (F : Fun K x qual st f fd)
    (h : ∀ (kV doc pm : Value) (an : Option Addr) (cdv ct : Value) (us : List Value), us.length = ps.length → bindArgs (PySem.W.fnOf x qual (defArgs st) (defBody st) (defScope st) .none kV doc pm an cdv ct) ⟨us, []⟩ = pure (ps.zip us)) : Binds K fd ps [] := by
  obtain ⟨oc, od, kV, doc, pm, an, cdv, ct, osl, rfl, lk, hcd⟩ := F.ex
  exact .all (h kV doc pm an cdv ct)
theorem fun_mk {x qual : Str} {st : Stmt} {f : Addr} {oc : Value} {od an : Option Addr} {osl : Array (Option Value)} {kV doc pm cdv ct : Value} (l : K.lookup f = some ⟨oc, od, .func (PySem.W.fnOf x qual (defArgs st) (defBody st) (defScope st) .none kV doc pm an cdv ct), osl⟩)
    (c : PySem.W.codeIn K cdv qual = true) (k : PySem.W.keepIn K (.ref f) = true) : Fun K x qual st f (PySem.W.fnOf x qual (defArgs st) (defBody st) (defScope st) .none kV doc pm an cdv ct) := ⟨⟨oc, od, kV, doc, pm, an, cdv, ct, osl, rfl, l, c⟩, k⟩
end
theorem small1000 {n : Nat} (h : n ≤ 1000) : n < sizeLine := Nat.lt_of_le_of_lt h (by decide)

/-! ### expressions in short: the name that stands in the i-th slot -/
section
variable {X : Cx}
theorem pv (i : Nat) {x : Str} {pos : Pos} (hN : X.N[i]? = some x := by rfl) (hv : Vis X.env.scope x := by first | exact Or.inl rfl | exact Or.inr (Or.inl rfl) | exact Or.inr (Or.inr rfl)) (hd : (x == ("__debug__" : Str)) = false := by decide)
    (hcd : (x == ("__classdict__" : Str)) = false := by decide) : PE X (.Name x pos) (tVar i) := pe_var hN hv hd hcd
end

/-! ### tests -/
theorem iteF {A B : Prop} (h : B) : if false = true then A else B := by
  rw [if_neg Bool.false_ne_true]
  exact h
theorem iteT {A B : Prop} (h : A) : if true = true then A else B := by
  rw [if_pos rfl]
  exact h
theorem ite2 {c A B : Prop} [Decidable c] (h1 : c → A) (h2 : ¬ c → B) : if c then A else B := by
  by_cases h : c
  · rw [if_pos h]
    exact h1 h
  · rw [if_neg h]
    exact h2 h
theorem iteNS {c A B : Prop} [Decidable c] (hc : c) (h : B) : if (!decide c) = true then A else B := by
  rw [decide_eq_true hc]
  exact iteF h

/-! ### heaps -/
/-- all that was tracked is as it was -/
def Same (H H' : Hp) : Prop := ∀ b o, H b = some o → H' b = some o
theorem Same.refl (H : Hp) : Same H H := fun _ _ h => h
theorem Same.trans {H H1 H2 : Hp} (a : Same H H1) (b : Same H1 H2) : Same H H2 := fun c o h => b c o (a c o h)
theorem Same.free {H H' : Hp} (e : Same H H') {l : Addr} (h : H' l = Option.none) : H l = Option.none := by
  cases q : H l with
  | none => rfl
  | some o =>
    rw [e l o q] at h
    cases h
theorem Same.seq {K : PySem.W.Frag} {H H' : Hp} {a : Addr} {xs : List V} (e : Same H H') (h : SqL K H a xs) : SqL K H' a xs := by
  rcases h with (h | ⟨o, h⟩) | h
  · exact .inl (.inl (e _ _ h))
  · exact .inl (.inr ⟨o, e _ _ h⟩)
  · exact .inr h

end L2

set_option Elab.async false
set_option linter.all false
set_option maxRecDepth 100000
namespace L2
open PySem PySem.Spec PyProof.Rows

section
variable {X : Cx}
theorem op_mulB : OpR X (binaryOp .Mult) (rI IntMulOk fun i j => .int (i * j)) := opI fun _ _ _ _ _ _ _ hc q => mul_int q hc
theorem log2_lt_of {n k : Nat} (hk : 0 < k) (h : n < 2 ^ k) : n.log2 < k := by
  rcases Nat.eq_zero_or_pos n with h0 | hp
  · rw [h0]; simpa using hk
  · exact (Nat.log2_lt (Nat.ne_of_gt hp)).mpr h
theorem mulOk_of {a b : Int} (ha : a.natAbs < 2 ^ 4000) (hb : b.natAbs < 2 ^ 4000) : IntMulOk a b := by
  have l : ∀ {z : Int}, z.natAbs < 2 ^ 4000 → Builtin.Int.intBits z ≤ 4000 := by
    intro z hz
    unfold Builtin.Int.intBits
    split
    · exact Nat.zero_le _
    · have := log2_lt_of (by decide : 0 < 4000) hz
      omega
  have h1 := l ha
  have h2 := l hb
  unfold IntMulOk
  have : Builtin.Int.intTooBig ((Builtin.Int.intBits a : Int) + (Builtin.Int.intBits b : Int)) = false := by
    unfold Builtin.Int.intTooBig bitsLine
    exact decide_eq_false (by omega)
  rw [this]; simp
def CDivB (i j : Int) : Prop := 0 < j ∧ j.natAbs < 2 ^ 4000
theorem op_fdivB : OpR X (binaryOp .FloorDiv) (rI CDivB fun i j => .int (i / j)) := opI fun i j _ _ _ _ _ hc q => by
  have h1 : (0 : Int) < j := hc.1
  have h2 := log2_lt_of (by decide : 0 < 4000) hc.2
  exact floordiv_int (by omega) (by rw [Int.fdiv_eq_ediv_of_nonneg i (by omega)]; exact q) (.inl (PyProof.noPylong_of_log2 (by omega)))

/-! isinstance with a built-in class -/
theorem call_isinst : CallR X (.builtin "isinstance") (fun xs H Q => ∃ x T t b, xs = [x, .ty T] ∧ TyOf X.K H x t ∧ PySem.W.kitOne X.K t (.type T) = some b ∧ Q (.bl b) H) := by
  intro pins s σ H xs us Q I r h
  obtain ⟨x, T, t, b, rfl, ty, e, q⟩ := h
  obtain ⟨u, u2, rfl, rx, r2⟩ := vals2 r
  obtain rfl : u2 = Value.type T := r2
  exact isinst_ok I rx ty e fun tk => ⟨.bl b, H, I.tok tk, rfl, q⟩

/-! the answers of isinstance, whatever the fragment -/
theorem kit_int_int (K : PySem.W.Frag) : PySem.W.kitOne K (.type "int") (.type "int") = some true := by with_unfolding_all rfl
theorem kit_int_str (K : PySem.W.Frag) : PySem.W.kitOne K (.type "int") (.type "str") = some false := by with_unfolding_all rfl
theorem kit_int_tuple (K : PySem.W.Frag) : PySem.W.kitOne K (.type "int") (.type "tuple") = some false := by with_unfolding_all rfl
theorem kit_str_str (K : PySem.W.Frag) : PySem.W.kitOne K (.type "str") (.type "str") = some true := by with_unfolding_all rfl
theorem kit_tup_int (K : PySem.W.Frag) : PySem.W.kitOne K (.type "tuple") (.type "int") = some false := by with_unfolding_all rfl
theorem kit_tup_str (K : PySem.W.Frag) : PySem.W.kitOne K (.type "tuple") (.type "str") = some false := by with_unfolding_all rfl
theorem kit_tup_tup (K : PySem.W.Frag) : PySem.W.kitOne K (.type "tuple") (.type "tuple") = some true := by with_unfolding_all rfl
/-! sum of a list of ints -/
theorem call_sum (hc : X.calm = true) : CallR X (.builtin "sum") (fun xs H Q => ∃ (p : Addr) (ns : List Int), xs = [.ref p] ∧ SqL X.K H p (ns.map V.int) ∧ Q (.int ns.sum) H) := by
  intro pins s σ H xs us Q I r h
  obtain ⟨p, ns, rfl, hS, q⟩ := h
  obtain ⟨u, rfl, rx⟩ := vals1 r
  obtain rfl : u = Value.ref p := rx
  obtain ⟨its, rv, pl, hz⟩ := I.list hS
  have hi := intsAre_of rv
  obtain ⟨xs, e⟩ := hi.allInts.items
  have e2 : (xs.toList.map (·.1)) = ns := by
    rw [← nums_intItems, ← e]
    exact hi.numsOf
  refine sum_intListG (xs := xs) (I.ok.hd hc) (by rw [← e]; exact pl.isList) fun h' tk t' hk => ⟨.int ns.sum, H, I.kept hk, ⟨t', ?_⟩, q⟩
  rw [preSum_eq, List.take_of_length_le (by simp), e2]

/-! xs[::-1] -/
def tRev (K : PySem.W.Frag) (te : TE) : TE := fun σ H Q => te σ H fun x H1 => ∃ a xs, x = .ref a ∧ SqL K H1 a xs ∧ ∀ p, H1 p = none → Q (.ref p) (upd H1 p (.lst xs.reverse))
theorem pe_rev {e : Expr} {te : TE} {j} {p2 p3 p4 pos : Pos} (he : PE X e te) : PE X (.Subscript e (.Slice none none (some (.UnaryOp .USub (.Constant (.int 1) j p3) p4)) p2) pos) (tRev X.K te) := by
  intro pins s σ H Q I h
  refine Subscript_ (thn (he pins s σ H _ I h) fun v s1 ⟨x, H1, I1, r1, q1⟩ => ?_)
  obtain ⟨a, xs, rfl, hx, q⟩ := q1
  obtain rfl : v = Value.ref a := r1
  refine wpAny_Slice ?_
  rw [evalPart_none]
  refine wpAny_pure ?_
  refine wpAny_pure ?_
  refine thn (po_some (X := X) (pe_un un_neg pe_int) pins s1 σ H1 (fun o H' => o = some (-1) ∧ H' = H1) I1 ⟨1, rfl, -1, rfl, rfl, rfl⟩) fun vs s2 ⟨o, H2, I2, ip, eo, eH⟩ => ?_
  subst eo eH
  obtain ⟨its, r, ht, hz⟩ := I2.list hx
  have hlen := r.length
  have I4 : Inv X pins σ H2 { s2 with heap := s2.heap.push { cls := .type "slice", data := .fields #[.none, .none, vs] } } := I2.kept (t' := s2.toks) fun b ob q => Heap.get?_push_of_some _ q
  have ht4 : PlainL (s2.heap.push { cls := .type "slice", data := .fields #[.none, .none, vs] }) a its.toArray := by
    obtain ⟨o, n, e1, e2⟩ := ht
    exact ⟨o, n, Heap.get?_push_of_some _ e1, e2⟩
  refine tail_any (ops := [.ref a, .ref s2.heap.objs.size]) ht4.isList.typeIs slot_list_getitem.lookup ?_ (by with_unfolding_all rfl)
  refine wpAny_getItem_list_slice ht4.isList (Heap.IsSliceOf.new ..) .none .none ip (by simp) ?_ (by rw [List.size_toArray] <;> omega)
  rw [PySem.W.krv_pick]
  refine ⟨.ref _, _, I4.laid (t' := s2.toks) (o := .lst xs.reverse) (fun b ob q => Heap.get?_push_of_some _ q) (Nat.le_refl _) ?_, rfl, q _ (I4.hok.fresh (Nat.le_refl _))⟩
  exact ⟨by rw [List.length_reverse]; exact hz, its.reverse, 0, r.reverse, Heap.get?_push_size _ rfl⟩

/-! an item of a dict of the file's top, by a text -/
def TopDict (w : World) (K : PySem.W.Frag) (a : Addr) : Prop := ∃ es n, K.lookup a = some ⟨.type "dict", none, .dict es n, #[]⟩ ∧ PySem.W.KeysLit w.params es.toList
def rIxD (w : World) (K : PySem.W.Frag) : R2 := fun x y H Q => ∃ a z v u, x = .ref a ∧ y = .str z ∧ TopDict w K a ∧ PySem.W.nsIn K a z = some (some u) ∧ RelV v u ∧ Q v H
theorem ix_top : IxR X (rIxD X.w X.K) := by
  intro value slice pins s σ H x y v u Q I rx ry h hs
  obtain ⟨a, z, v', u', rfl, rfl, ⟨es, n, hl, hk⟩, e, r, q⟩ := h
  obtain rfl : v = Value.ref a := rx
  obtain ⟨t, rfl⟩ := ry
  obtain ⟨m, F⟩ := I.fr
  exact PySem.W.topItem_K F I.mod.kin hl hk e ⟨v', H, I.tok _, r, q⟩ hs

/-! a call of what a local name holds: one of a family of defs -/
structure Callee (P : Program) (w : World) (K : PySem.W.Frag) (mg : Str → Option Value) (base : Heap) (CX : CXT) (k : Nat) (f : Addr) (sp : Sp) : Prop where
  ok : ∃ fd ps, FnOk P w K mg base CX k f fd ps sp ∧ Binds K fd ps []
  kp : PySem.W.keepIn K (.ref f) = true
def tCallV (Fam : Addr → Sp → Prop) (E : XK) (tf : TE) (t : TA) : TE := fun σ H Q => tf σ H fun x H1 => ∃ f sp, x = .ref f ∧ Fam f sp ∧ t σ H1 fun vs H2 => sp vs H2 Q E
theorem pe_callV {CX : CXT} {k : Nat} {Fam : Addr → Sp → Prop} {E : XK} {x : Str} {p pos : Pos} {e : Expr} {es : List Expr} {tf : TE} {t : TA} (hF : ∀ f sp, Fam f sp → Callee X.prog X.w X.K X.mg X.base CX k f sp) (hr : Room k X.A) (hx : Passes CX X E) (hf : PE X (.Name x p) tf) (ha : PA X (e :: es) t)
    (he : starEach (e :: es) X.env = (false, eval e X.env) :: starEach es X.env := by rfl) (hpl : (backTo pos (starEach es X.env)).any (·.1) = false := by rfl) :
    PE X (.Call (.Name x p) (e :: es) [] pos) (tCallV Fam E tf t) := by
  intro pins s σ H Q I h
  refine wpAny_Call_Name_kw (thn (hf pins s σ H _ I h) fun u s1 ⟨y, H1, I1, r1, f, sp, ey, fam, q⟩ => ?_)
  subst ey
  obtain rfl : u = Value.ref f := r1
  obtain ⟨⟨fd, ps, F, hb⟩, hk⟩ := hF f sp fam
  refine PySem.W.callWith_K (h₀ := X.base) I.ok.mod.kin hk (thn (ha pos pins s1 σ H1 _ I1 q) fun us s2 ⟨vs, H2, I2, r, q2⟩ => ⟨I2.kIn, ?_⟩) he hpl
  exact run_fn (dvs := []) (ds := []) F hr hb .nil hx I2 r (by rw [List.append_nil]; exact q2)
end
end L2

set_option Elab.async false
set_option linter.all false
set_option maxRecDepth 100000
namespace L2
open PySem PySem.Spec PyProof.Rows

theorem bt_len : bootBuiltins "len" = some (.builtin "len") := by decide +kernel
theorem bt_sum : bootBuiltins "sum" = some (.builtin "sum") := by decide +kernel
theorem bt_isinstance : bootBuiltins "isinstance" = some (.builtin "isinstance") := by decide +kernel
theorem bt_int : bootBuiltins "int" = some (.type "int") := by decide +kernel
theorem bt_str : bootBuiltins "str" = some (.type "str") := by decide +kernel
theorem bt_tuple : bootBuiltins "tuple" = some (.type "tuple") := by decide +kernel
/-! a def of the text, by its name and its promise -/
structure Def (P : Program) (w : World) (K : PySem.W.Frag) (mg : Str → Option Value) (base : Heap) (CX : CXT) (k : Nat) (x : Str) (sp : Sp) : Prop where
  ex : ∃ f fd ps, FnOk P w K mg base CX k f fd ps sp ∧ Binds K fd ps [] ∧ mg x = some (.ref f) ∧ PySem.W.keepIn K (.ref f) = true
section
variable {X : Cx} {CX : CXT} {k : Nat} {sp : Sp} {x : Str} {p pos : Pos} {e : Expr} {es : List Expr} {t : TA}
theorem pe_def (G : Def X.prog X.w X.K X.mg X.base CX0 k x sp) (hr : Room k X.A) (ha : PA X (e :: es) t) (hg : Gl X x := by rfl) (hdb : (x == ("__debug__" : Str)) = false := by decide)
    (he : starEach (e :: es) X.env = (false, eval e X.env) :: starEach es X.env := by rfl) (hpl : (backTo pos (starEach es X.env)).any (·.1) = false := by rfl) :
    PE X (.Call (.Name x p) (e :: es) [] pos) (tCall sp [] E0 t) := by
  obtain ⟨f, fd, ps, a, b, c, d⟩ := G.ex
  exact pe_call a hr hg c d b .nil pass0 ha hdb he hpl
def rIsin (K : PySem.W.Frag) : List V → Hp → VK → Prop := fun xs H Q => match xs with
  | [x, .ty T] => ∃ t b, TyOf K H x t ∧ PySem.W.kitOne K t (.type T) = some b ∧ Q (.bl b) H
  | _ => False
theorem call_isin : CallR X (.builtin "isinstance") (rIsin X.K) := by
  intro pins s σ H xs us Q I r h
  unfold rIsin at h
  split at h
  · obtain ⟨t, b, ty, e, q⟩ := h
    exact call_isinst pins s σ H _ us Q I r ⟨_, _, t, b, rfl, ty, e, q⟩
  · exact h.elim
theorem pe_isin {T : Str} {TT : String} {a : Expr} {ta : TE} {p2 : Pos} (hm : X.mg "isinstance" = none) (hT : X.mg T = none) (hv : bootBuiltins T = some (.type TT)) (ha : PE X a ta) (hg : Gl X "isinstance" := by rfl) (hg2 : Gl X T := by rfl) (hn : T ≠ "__name__" := by decide) (hd : (T == ("__debug__" : Str)) = false := by decide)
    (he : starEach [a, .Name T p2] X.env = (false, eval a X.env) :: starEach [.Name T p2] X.env := by rfl) (hpl : (backTo pos (starEach [.Name T p2] X.env)).any (·.1) = false := by rfl) (he2 : starEach [.Name T p2] X.env = [(false, eval (.Name T p2) X.env)] := by rfl) :
    PE X (.Call (.Name "isinstance" p) [a, .Name T p2] [] pos) (fun σ H Q => ta σ H fun x H1 => ∃ t b, TyOf X.K H1 x t ∧ PySem.W.kitOne X.K t (.type TT) = some b ∧ Q (.bl b) H1) :=
  pe_callB call_isin hg hm bt_isinstance (pa_cons ha (pa_cons (pe_bltn (v := .ty TT) hg2 hT hv rfl hn hd) pa_nil he2) he) (by decide) (by decide) he hpl
end
end L2

set_option Elab.async false
set_option linter.all false
set_option maxRecDepth 100000
set_option maxHeartbeats 4000000
namespace L2
open PySem PySem.Spec PyProof.Rows

/-! ### a list comprehension with one clause: its block is a context of its own -/
def closes (cells : List (Str × Addr)) : List (Str × NameKind) → List (Str × Addr) → Option (List (Str × Addr))
  | [], acc => some acc
  | (n, k) :: r, acc => if (k == .free) = true then (match cells.lookup n with
    | some a => closes cells r ((n, a) :: acc)
    | none => none) else closes cells r acc
theorem closureFor_of {scope : Scope} {env : Env} {cl : List (Str × Addr)} (h : closes env.cells scope.names [] = some cl) : closureFor scope env = pure cl := by
  have gen : ∀ (l : List (Str × NameKind)) (acc cl : List (Str × Addr)), closes env.cells l acc = some cl →
      (forIn (m := Sem) l acc fun (x : Str × NameKind) (cs : List (Str × Addr)) => if (x.2 == .free) = true then (do let c ← cellOf env x.1; pure (ForInStep.yield ((x.1, c) :: cs))) else pure (ForInStep.yield cs)) = pure cl := by
    intro l
    induction l with
    | nil => intro acc cl h; cases h; rfl
    | cons y r ih =>
      intro acc cl h
      obtain ⟨n, k⟩ := y
      unfold closes at h
      rw [List.forIn_cons]
      by_cases hk : (k == .free) = true
      · rw [if_pos hk] at h
        dsimp only
        rw [if_pos hk]
        cases e : env.cells.lookup n with
        | none => rw [e] at h; cases h
        | some a =>
          rw [e] at h
          have ec : cellOf env n = pure a := by unfold cellOf; rw [e]
          rw [ec, pure_bind, pure_bind]
          exact ih _ _ h
      · rw [if_neg hk] at h
        dsimp only
        rw [if_neg hk, pure_bind]
        exact ih _ _ h
  unfold closureFor
  exact (bind_pure _).trans (gen scope.names [] cl h)
theorem closes_mem {cells : List (Str × Addr)} : ∀ {l : List (Str × NameKind)} {acc cl : List (Str × Addr)}, closes cells l acc = some cl → (∀ p ∈ acc, cells.lookup p.1 = some p.2) → ∀ p ∈ cl, cells.lookup p.1 = some p.2
  | [], acc, cl, h, ha => by cases h; exact ha
  | (n, k) :: r, acc, cl, h, ha => by
    unfold closes at h
    split at h
    · cases e : cells.lookup n with
      | none => rw [e] at h; cases h
      | some a =>
        rw [e] at h
        refine closes_mem h fun p hp => ?_
        rcases List.mem_cons.mp hp with q | q
        · subst q; exact e
        · exact ha p q
    · exact closes_mem h ha
theorem closes_has {cells : List (Str × Addr)} {x : Str} : ∀ {l : List (Str × NameKind)} {acc cl : List (Str × Addr)}, closes cells l acc = some cl → ((x, NameKind.free) ∈ l ∨ ∃ c, (x, c) ∈ acc) → ∃ c, (x, c) ∈ cl
  | [], acc, cl, h, hx => by
    cases h
    rcases hx with q | q
    · cases q
    · exact q
  | (n, k) :: r, acc, cl, h, hx => by
    unfold closes at h
    split at h
    · cases e : cells.lookup n with
      | none => rw [e] at h; cases h
      | some a =>
        rw [e] at h
        refine closes_has h ?_
        rcases hx with q | ⟨c, q⟩
        · rcases List.mem_cons.mp q with z | z
          · cases z; exact .inr ⟨a, List.mem_cons_self⟩
          · exact .inl z
        · exact .inr ⟨c, List.mem_cons_of_mem _ q⟩
    · rename_i hk
      refine closes_has h ?_
      rcases hx with q | q
      · rcases List.mem_cons.mp q with z | z
        · cases z; exact absurd rfl hk
        · exact .inl z
      · exact .inr q
theorem lookup_of_mem {α : Type} {x : Str} {c : α} : ∀ {l : List (Str × α)}, (x, c) ∈ l → ∃ d, l.lookup x = some d ∧ (x, d) ∈ l
  | (n, a) :: r, h => by
    rw [List.lookup_cons]
    by_cases e : (x == n) = true
    · rw [e]
      have e' : x = n := by simpa using e
      exact ⟨a, rfl, by rw [e']; exact List.mem_cons_self⟩
    · have e2 : (x == n) = false := by simpa using e
      rw [e2]
      rcases List.mem_cons.mp h with z | z
      · cases z; simp at e
      · obtain ⟨d, h1, h2⟩ := lookup_of_mem z
        exact ⟨d, h1, List.mem_cons_of_mem _ h2⟩

def cxC (X : Cx) (N : List Str) (scope : Scope) (cl : List (Str × Addr)) (C : Addr) (s2 : Shared) (H2 : Hp) (fp : List Addr) : Cx where
  prog := X.prog
  w := X.w
  K := X.K
  mg := X.mg
  base := X.base
  A := X.A
  N := N
  s₀ := s2
  H₀ := H2
  env := compEnvC scope cl C X.env
  outer := X.stack
  stack := X.stack
  ex := fp
  fn := fun _ => false
  calm := X.calm
  pn := []
  xe := fun _ _ => False
/-- the values at the block's entry: none of its own names, those of the names around it -/
def compStart0 (mp : List (Option Nat)) (σ : St) : St := mp.map fun o => match o with
  | some j => (σ[j]?).bind id
  | none => none
/-- the names of a block: own ones (local), and names around it that it reads -/
structure CompScope (X : Cx) (N : List Str) (mp : List (Option Nat)) (scope : Scope) : Prop where
  kind : scope.kind = .function
  nocell : ∀ y ∈ scope.names, y.2 ≠ .cell
  names : ∀ y ∈ scope.names, y.2 = .local → scope.names.lookup y.1 = some .local
  len : mp.length = N.length
  out : ∀ (i j : Nat), mp[i]? = some (some j) → ∃ x, N[i]? = some x ∧ X.N[j]? = some x ∧ (X.env.scope.names.lookup x = some .cell ∨ X.env.scope.names.lookup x = some .free) ∧ scope.names.lookup x = some .free

def PTL (X : Cx) (ifs : List Expr) (t : TT) : Prop :=
  ∀ (pins : List (Addr × Obj)) (s : Shared) (σ : St) (H : Hp) (Q : Bool → Hp → Prop), Inv X pins σ H s → t σ H Q →
    wpAny (model X.prog X.w) X.A (forIn ifs true fun c r => if r = true then do let ok ← isTrue c X.env (eval c X.env); pure (ForInStep.yield ok) else pure (ForInStep.yield r)) (TP X pins σ Q) X.xe s
section
variable {prog : Program} {w : World} {A : Around} {R : Result → Shared → Prop} {s : Shared}
/-- the comprehension's loop, the step ahead of the store told too; nothing is raised -/
theorem compLoop_go {elt target iter : Expr} {ifs : List Expr} {scope : Scope} {pos : Pos} {it acc : Value} {env : Env} (I : Nat → Shared → Prop)
    (turn : ∀ n s, I n s → wpAny (model prog w) A (pyNext it) (fun r s₁ => match r with
      | none => R (.ok .next) s₁
      | some v => wpAny (model prog w) A (letOwnedTupleGo target it v) (fun _ s1 => wpAny (model prog w) A (assign target env v) (fun _ s₂ =>
          wpAny (model prog w) A (forIn ifs true fun c r => if r = true then do let ok ← isTrue c env (eval c env); pure (ForInStep.yield ok) else pure (ForInStep.yield r)) (fun ok s₃ =>
            if ok = true then wpAny (model prog w) A (eval elt env) (fun x s₄ =>
              wpAny (model prog w) A (call (.builtin "list.append") [acc, x]) (fun _ s₅ => ∃ m, m < n ∧ I m s₅) (fun _ _ => False) s₄) (fun _ _ => False) s₃
            else ∃ m, m < n ∧ I m s₃) (fun _ _ => False) s₂) (fun _ _ => False) s1) (fun _ _ => False) s₁) (fun _ _ => False) s)
    (n : Nat) (h : I n s) :
    codeAny (model prog w) A (.compLoop (.ListComp elt [⟨target, iter, ifs, 0⟩] scope pos) 0 it acc env) R s := by
  refine codeAny_loop rfl I (fun n s hI => ?_) n h
  show wpAny _ A ((compTurn (.ListComp elt [⟨target, iter, ifs, 0⟩] scope pos) 0 it acc env).onRaise (fun x => do noteFrame x env; theTreesLotGoes x)) _ _ s
  refine wpAny_noted ?_
  rw [compTurn_list]
  refine wpAny_bind (wpAny_standAt (wpAny_bind (wpAny_mono (turn n s hI) (fun r s₁ h₁ => ?_) fun _ _ h' => h'.elim)))
  cases r with
  | none => exact wpAny_pure h₁
  | some v =>
    refine wpAny_bind (wpAny_mono h₁ (fun _ s1 h1 => wpAny_bind (wpAny_mono h1 (fun _ s₂ h₂ => wpAny_bind (wpAny_mono h₂ (fun ok s₃ h₃ => ?_) fun _ _ h' => h'.elim)) fun _ _ h' => h'.elim)) fun _ _ h' => h'.elim)
    cases ok with
    | false => exact wpAny_pure ⟨rfl, h₃⟩
    | true =>
      exact wpAny_bind (wpAny_bind (wpAny_mono h₃ (fun x s₄ h₄ => wpAny_bind (wpAny_mono h₄ (fun _ s₅ h₅ => wpAny_pure (wpAny_pure ⟨rfl, h₅⟩)) fun _ _ h' => h'.elim)) fun _ _ h' => h'.elim))
end
section
variable {X : Cx}
theorem ptl_one {c : Expr} {t : TT} (h : PT X c t) : PTL X [c] t := fun pins s σ H Q I hq => wpAny_tests_one (h pins s σ H Q I hq)

theorem comp_inv {pins : List (Addr × Obj)} {σ : St} {H : Hp} {s2 : Shared} {N : List Str} {mp : List (Option Nat)} {scope : Scope} {cl : List (Str × Addr)} {fp : List Addr} {h1 : Heap} {tk : Nat} (I : Inv X pins σ H s2) (S : CompScope X N mp scope)
    (hcl : closes X.env.cells scope.names [] = some cl) (hfp : ∀ b ∈ fp, FpOk X pins H b) (hfo : ∀ b ∈ fp, ∃ o, s2.heap.get? b = some o)
    (old : ∀ b o, s2.heap.get? b = some o → h1.get? b = some o) (hD : h1.get? s2.heap.objs.size = some { cls := .type "list", data := .seq ([] : List Value).toArray }) {m : Str → Option Value} (hC : h1.Ns (s2.heap.objs.size + 1) m) :
    Inv (cxC X N scope cl (s2.heap.objs.size + 1) s2 H fp) [] (compStart0 mp σ) (upd H s2.heap.objs.size (.lst [])) { s2 with heap := h1, toks := tk } := by
  have clm : ∀ {x : Str} {c : Addr}, cl.lookup x = some c → X.env.cells.lookup x = some c := fun {x c} e => closes_mem hcl (fun p z => absurd z (by simp)) (x, c) (PySem.mem_of_lookup e)
  have hn : H s2.heap.objs.size = none := I.hok.fresh (Nat.le_refl _)
  have hnC : H (s2.heap.objs.size + 1) = none := I.hok.fresh (Nat.le_succ _)
  have cellLt : ∀ {x : Str} {c : Addr}, X.env.cells.lookup x = some c → c < s2.heap.objs.size := fun {x c} e => by
    obtain ⟨v, q⟩ := I.cell x c e
    exact q.lt
  have freeOf : ∀ x, ((relabel scope X.env).names.lookup x = some .cell ∨ (relabel scope X.env).names.lookup x = some .free) → (x, NameKind.free) ∈ scope.names := fun x hx => by
    have hm : (x, NameKind.cell) ∈ (relabel scope X.env).names ∨ (x, NameKind.free) ∈ (relabel scope X.env).names := hx.elim (fun z => .inl (PySem.mem_of_lookup z)) fun z => .inr (PySem.mem_of_lookup z)
    have conv : ∀ k, (x, k) ∈ (relabel scope X.env).names → (k = .cell ∨ k = .free) → (x, NameKind.free) ∈ scope.names := fun k hm hk => by
      obtain ⟨⟨n, k'⟩, hy, e⟩ := List.mem_map.mp hm
      dsimp only at e
      split at e
      · rename_i hc
        simp only [Bool.and_eq_true, beq_iff_eq] at hc
        cases e
        rw [hc.1.1] at hy
        exact hy
      · cases e
        rcases hk with z | z
        · subst z; exact absurd rfl (S.nocell _ hy)
        · subst z; exact hy
    exact hm.elim (fun z => conv _ z (.inl rfl)) fun z => conv _ z (.inr rfl)
  have ok : (cxC X N scope cl (s2.heap.objs.size + 1) s2 H fp).Ok := by
    refine ⟨I.ok.mod, S.kind, I.ok.glob, I.ok.blt, Nat.le_succ _, fun x y c e1 e2 => I.ok.inj x y c (clm e1) (clm e2), fun x hx => ?_, (fun x c z => nomatch z), I.ok.hd, I.ok.frames, .inl rfl, fun b hb => ⟨?_, fun x c e => (hfp b hb).2.2.2.2.1 x c (clm e)⟩, I.bs, Nat.le_trans I.ok.bsz I.sz, fun b o e hb => ?_, fun b hb z => ?_, I.stack, I.stkFree⟩
    · obtain ⟨c, hc⟩ := closes_has hcl (.inl (freeOf x hx))
      obtain ⟨d, hd, _⟩ := lookup_of_mem hc
      exact ⟨d, hd⟩
    · obtain ⟨o, e⟩ := hfo b hb
      exact Nat.ne_of_lt (Nat.lt_succ_of_lt (Heap.lt_size e))
    · rcases (hfp b hb).2.2.2.1 with z | z
      · exact I.ok.noex b o e z
      · exact absurd (Nat.lt_of_lt_of_le (Heap.lt_size e) (Nat.le_trans I.ok.bsz z)) (Nat.lt_irrefl _)
    · rcases List.mem_cons.mp (I.stkSub b z) with q | q
      · exact (hfp b hb).2.1 q
      · exact (hfp b hb).2.2.1 q
  refine ⟨ok, rfl, I.bare, Un.laid old (Nat.le_refl _) hn, ⟨m, hC, fun i x v e1 e2 e3 => ?_⟩, fun x c e => ?_, ?_, fun x c e => ?_, (fun p hp => nomatch hp), ?_, ?_⟩
  · -- a name around
    unfold compStart0 at e2
    rw [List.getElem?_map] at e2
    cases em : mp[i]? with
    | none => rw [em] at e2; cases e2
    | some o =>
      rw [em] at e2
      cases o with
      | none => cases e2
      | some j =>
        have e2' : (σ[j]?).bind id = some v := Option.some.inj e2
        obtain ⟨x', n1, n2, n3, n4⟩ := S.out i j em
        rw [show (cxC X N scope cl (s2.heap.objs.size + 1) s2 H fp).N[i]? = N[i]? from rfl, n1] at e1
        cases e1
        have sj : σ[j]? = some (some v) := by
          cases ej : σ[j]? with
          | none => rw [ej] at e2'; cases e2'
          | some o => rw [ej] at e2'; exact congrArg some e2'
        obtain ⟨m0, hm0, hl⟩ := I.loc
        obtain ⟨u, ru, lk⟩ := hl j x v n2 sj (.inr n3)
        refine ⟨u, ru, .inr ⟨?_, ?_⟩⟩
        · have hf : (x, NameKind.free) ∈ scope.names := PySem.mem_of_lookup n4
          -- the relabelled kind
          have key : ∀ l : List (Str × NameKind), l.lookup x = some .free → ((l.map fun (n, k) => if (k == NameKind.free && X.env.scope.kind == .function && X.env.kindOf n == some .cell) then (n, NameKind.cell) else (n, k)).lookup x = some .cell ∨
              (l.map fun (n, k) => if (k == NameKind.free && X.env.scope.kind == .function && X.env.kindOf n == some .cell) then (n, NameKind.cell) else (n, k)).lookup x = some .free) := by
            intro l
            induction l with
            | nil => intro z; cases z
            | cons y r ih =>
              obtain ⟨n, k⟩ := y
              intro z
              rw [List.lookup_cons] at z
              rw [List.map_cons]
              dsimp only
              by_cases en : (x == n) = true
              · rw [en] at z
                dsimp only at z
                cases z
                split
                · exact .inl (by rw [List.lookup_cons, en])
                · exact .inr (by rw [List.lookup_cons, en])
              · have en2 : (x == n) = false := by simpa using en
                rw [en2] at z
                dsimp only at z
                split
                · rw [List.lookup_cons, en2]; exact ih z
                · rw [List.lookup_cons, en2]; exact ih z
          exact key scope.names n4
        · have hf : (x, NameKind.free) ∈ scope.names := PySem.mem_of_lookup n4
          obtain ⟨c, hc⟩ := closes_has hcl (.inl hf)
          obtain ⟨d, hd, _⟩ := lookup_of_mem hc
          rcases lk with ⟨k1, _⟩ | ⟨_, c', hc', z⟩
          · have k1' : X.env.scope.names.lookup x = some .local := k1
            rcases n3 with z | z <;> (rw [k1'] at z; cases z)
          · have e := clm hd
            rw [hc'] at e
            have e3 : c' = d := Option.some.inj e
            obtain ⟨o, ho, hdt⟩ := z
            rw [e3] at ho
            exact ⟨d, hd, o, old _ _ ho, hdt⟩
  · obtain ⟨v, o, ho, hdt⟩ := I.cell x c (clm e)
    exact ⟨v, o, old _ _ ho, hdt⟩
  · show upd H s2.heap.objs.size (.lst []) (s2.heap.objs.size + 1) = none
    rw [upd_ne (Nat.ne_of_gt (Nat.lt_succ_self _))]; exact hnC
  · show upd H s2.heap.objs.size (.lst []) c = none
    rw [upd_ne (Nat.ne_of_lt (cellLt (clm e)))]
    exact I.freeC x c (clm e)
  · exact I.hok.laid old (Nat.le_refl _) ⟨by show 0 ≤ sizeLine; exact Nat.zero_le _, [], 0, .nil, hD⟩
  · show (compStart0 mp σ).length = N.length
    unfold compStart0
    rw [List.length_map]; exact S.len

/-- the reading of [elt for tg in iter if ..] -/
def tComp (mp : List (Option Nat)) (wi : TI) (g : Addr → Shared → Hp → List Addr → TG) (tt : Addr → Shared → Hp → List Addr → TT) (te : Addr → Shared → Hp → List Addr → TE) : TE := fun σ H Q => wi σ H fun J H1 => ∀ (D : Addr), H1 D = none → ∀ (C : Addr) (s2 : Shared) (fp : List Addr),
  ∃ W : Nat → Nat → St → Hp → Prop, (∃ m, W 0 m (compStart0 mp σ) (upd H1 D (.lst []))) ∧ ∀ i m σ2 H2, W i m σ2 H2 →
    (J.stop i H2 ∧ Q (.ref D) H2) ∨ (J.go i H2 ∧ ∃ N : St → Hp → Prop, (∀ σ' H', N σ' H' → ∃ m', m' < m ∧ W (i + 1) m' σ' H') ∧ ∀ x H', J.yld i H2 x H' → g C s2 H1 fp x σ2 H' fun σ3 H3 => tt C s2 H1 fp σ3 H3 fun b H4 =>
      if b = true then te C s2 H1 fp σ3 H4 fun y H5 => ∃ xs, H5 D = some (.lst xs) ∧ xs.length < sizeLine ∧ N σ3 (upd H5 D (.lst (xs ++ [y]))) else N σ3 H4)
theorem pe_comp {elt iter tg : Expr} {ifs : List Expr} {scope : Scope} {pos : Pos} {N : List Str} {mp : List (Option Nat)} {cl : List (Str × Addr)} {wi : TI} {g : Addr → Shared → Hp → List Addr → TG} {tt : Addr → Shared → Hp → List Addr → TT} {te : Addr → Shared → Hp → List Addr → TE}
    (hc : X.calm = true) (S : CompScope X N mp scope) (hcl : closes X.env.cells scope.names [] = some cl) (hi : PI X tg iter wi)
    (hg : ∀ C s2 H2 fp, PG (cxC X N scope cl C s2 H2 fp) tg (g C s2 H2 fp)) (ht : ∀ C s2 H2 fp, PTL (cxC X N scope cl C s2 H2 fp) ifs (tt C s2 H2 fp)) (he : ∀ C s2 H2 fp, PE (cxC X N scope cl C s2 H2 fp) elt (te C s2 H2 fp))
    (hs : ∀ x, foldedSetIterable iter X.env x = pure x := by intro _; rfl) :
    PE X (.ListComp elt [⟨tg, iter, ifs, 0⟩] scope pos) (tComp mp wi g tt te) := by
  intro pins s σ H Q I h
  rw [eval_ListComp]
  refine wpAny_comprehension_free (use := none) rfl hs (closureFor_of hcl) S.kind S.names (thn (hi pins s σ H _ I h) fun v s1 h1 => thn h1 fun itv s2 h2 => ?_)
  obtain ⟨it, fp, tn, J, H2, e, I2, T, st2, f2, h3⟩ := h2
  subst e
  refine wpAny_newObj_type (wpAny_newFunctionEnv S.nocell (by intro y hy; simp at hy) (fun h₁ hns₁ hsb₁ => ?_) S.kind)
  dsimp only at hns₁ hsb₁ ⊢
  have hn2 : H2 s2.heap.objs.size = none := I2.hok.fresh (Nat.le_refl _)
  generalize hH2 : s2.heap.push { cls := .type "list", dict := none, data := .seq ([] : List Value).toArray } = G2 at hns₁ hsb₁ ⊢
  have hC : G2.objs.size = s2.heap.objs.size + 1 := by rw [← hH2, Heap.size_push]
  have old : ∀ b o, s2.heap.get? b = some o → h₁.get? b = some o := fun b o e => hsb₁.extBut b o (by rw [hC]; exact Nat.ne_of_lt (Nat.lt_succ_of_lt (Heap.lt_size e))) (Heap.get?_push_of_some _ (hH2 ▸ Heap.get?_push_of_some _ e))
  have hD1 : h₁.get? s2.heap.objs.size = some { cls := .type "list", data := .seq ([] : List Value).toArray } := hsb₁.extBut _ _ (by rw [hC]; exact Nat.ne_of_lt (Nat.lt_succ_self _)) (Heap.get?_push_of_some _ (hH2 ▸ Heap.get?_push_size _ rfl))
  rw [hC] at hns₁
  obtain ⟨W, ⟨m0, w0⟩, turn⟩ := h3 s2.heap.objs.size hn2 (s2.heap.objs.size + 1) s2 fp
  have I4 := comp_inv (tk := s2.toks + ([] : List (Str × Value)).length) I2 S hcl f2 (fun b hb => let ⟨o, e, _⟩ := T.obj _ _ st2 b hb; ⟨o, e⟩) old hD1 hns₁
  have st4 : tn 0 h₁ := T.keep _ _ _ st2 fun b hb o e => old b o e
  have stat : ∀ {pl : List (Addr × Obj)} {H' : Hp}, (∀ b ∈ fp, H' b = none) → (∀ p ∈ pl, p.1 ∉ fp) → ∀ b ∈ fp, FpOk (cxC X N scope cl (s2.heap.objs.size + 1) s2 H2 fp) pl H' b := fun {pl H'} hn hp b hb =>
    ⟨hn b hb, (I4.ok.exf b hb).1, I4.ok.exfs b hb, .inl hb, (I4.ok.exf b hb).2, fun p z q => hp p (by simpa [cxC] using z) (by rw [q]; exact hb)⟩
  have fr0 : ∀ b ∈ fp, (upd H2 s2.heap.objs.size (.lst [])) b = none := fun b hb => by
    obtain ⟨o, e, _⟩ := T.obj _ _ st2 b hb
    rw [upd_ne (Nat.ne_of_lt (Heap.lt_size e))]
    exact (f2 b hb).1
  have envEq : (newEnv scope G2.objs.size X.env.globals cl X.env.qual none .none (some X.env) X.env.builtins) = (newEnv scope (s2.heap.objs.size + 1) X.env.globals cl X.env.qual none .none (some X.env) X.env.builtins) := by rw [hC]
  have fin : ∀ {σ' : St} {H' : Hp} {s' : Shared}, Inv (cxC X N scope cl (s2.heap.objs.size + 1) s2 H2 fp) [] σ' H' s' → Q (.ref s2.heap.objs.size) H' → compPost (model X.prog X.w) X.A X.xe none (EP X pins σ Q) (.ref s2.heap.objs.size) (s2.heap.objs.size + 1) (.ok .next) s' := by
    intro σ' H' s' J' q
    obtain ⟨m, hm, _⟩ := id J'.loc
    refine ⟨m, hm, fun h'' sb => ?_⟩
    have keepC : ∀ b o, b ≠ s2.heap.objs.size + 1 → s'.heap.get? b = some o → h''.get? b = some o := fun b o hb e => sb.extBut b o hb e
    have u0 := J'.base
    have neC : ∀ b o, s2.heap.get? b = some o → b ≠ s2.heap.objs.size + 1 := fun b o e => Nat.ne_of_lt (Nat.lt_succ_of_lt (Heap.lt_size e))
    have u : Un (frs X.stack) fp H2 H' s2.heap h'' := ⟨fun b o e n hb hx => keepC b o (neC b o e) (u0.keep b o e n hb hx), fun b o e n hb hx => by
        obtain ⟨sl, e1⟩ := u0.slot b o e n hb hx
        exact ⟨sl, keepC b _ (neC b o e) e1⟩, u0.free, fun b o e hx => by
        obtain ⟨o', e1⟩ := u0.there b o e hx
        exact ⟨o', keepC b o' (neC b o e) e1⟩, u0.tups, u0.frzs, u0.tbls⟩
    have freeC : H' (s2.heap.objs.size + 1) = none := J'.free
    have hok : HOk X.prog X.w H' h'' := fun b o e => (J'.hok b o e).stay (fun c v hcc r => keepC c v (by
        intro z
        rcases hcc with q1 | q1
        · rw [← q1, z, freeC] at e; cases e
        · rw [z, freeC] at q1; cases q1) r) (fun _ z => z) fun _ _ z => z
    exact ⟨.ref s2.heap.objs.size, H', I2.call' (s' := { s' with heap := h'' }) J'.os u hok J'.bare fun b hb => ⟨(f2 b hb).2.2.2.1, (f2 b hb).2.1, (f2 b hb).2.2.2.2.1, (f2 b hb).2.2.2.2.2⟩, rfl, q⟩
  have loop : codeAny (model X.prog X.w) X.A (.compLoop (.ListComp elt [⟨tg, iter, ifs, 0⟩] scope pos) 0 (.ref it) (.ref s2.heap.objs.size) (compEnvC scope cl (s2.heap.objs.size + 1) X.env))
      (compPost (model X.prog X.w) X.A X.xe none (EP X pins σ Q) (.ref s2.heap.objs.size) (s2.heap.objs.size + 1)) { s2 with heap := h₁, toks := s2.toks + ([] : List (Str × Value)).length } := by
    refine compLoop_go (fun n s' => ∃ i σ' H', Inv (cxC X N scope cl (s2.heap.objs.size + 1) s2 H2 fp) [] σ' H' s' ∧ tn i s'.heap ∧ (∀ b ∈ fp, H' b = none) ∧ W i n σ' H') ?_ m0 ⟨0, _, _, I4, st4, fr0, w0⟩
    rintro n s3 ⟨i, σ3, H3, I3, st3, fr3, w3⟩
    rcases turn i n σ3 H3 w3 with ⟨stop, qn⟩ | ⟨go, N', hN, step⟩
    · refine (thn (T.done (cxC X N scope cl (s2.heap.objs.size + 1) s2 H2 fp) rfl rfl rfl hc i [] s3 σ3 H3 (fun _ _ => False) I3 (stat fr3 (fun _ z => nomatch z)) st3 stop) fun r s4 ⟨hr, I4'⟩ => ?_)
      subst hr
      exact fin I4' qn
    · refine (thn (T.item (cxC X N scope cl (s2.heap.objs.size + 1) s2 H2 fp) rfl rfl rfl hc i [] s3 σ3 H3 (fun _ _ => False) I3 (stat fr3 (fun _ z => nomatch z)) st3 go) fun r s4 ⟨u, hr, h4⟩ => ?_)
      subst hr
      refine thn h4 fun _ s5 ⟨x, H5, I5, r5, y5, st5, fr5⟩ => ?_
      have I5' := I5.pinned (pins := []) (stat fr5 (fun _ z => nomatch z)) (T.obj _ _ st5)
      refine (thn (hg (s2.heap.objs.size + 1) s2 H2 fp _ s5 σ3 H5 x u _ I5' r5 (step x H5 y5)) fun _ s6 ⟨σ6, H6, I6, q6⟩ => ?_)
      refine (thn (ht (s2.heap.objs.size + 1) s2 H2 fp _ s6 σ6 H6 _ I6 q6) fun b s7 ⟨H7, I7, q7⟩ => ?_)
      have again : ∀ {σ7 : St} {H7 : Hp} {s7 : Shared}, Inv (cxC X N scope cl (s2.heap.objs.size + 1) s2 H2 fp) ([] ++ pinsAt fp s5.heap) σ7 H7 s7 → N' σ7 H7 → ∃ m, m < n ∧ ∃ i σ' H', Inv (cxC X N scope cl (s2.heap.objs.size + 1) s2 H2 fp) [] σ' H' s7 ∧ tn i s7.heap ∧ (∀ b ∈ fp, H' b = none) ∧ W i m σ' H' := fun {σ7 H7 s7} I7 n7 => by
        obtain ⟨m', hm, w7⟩ := hN σ7 H7 n7
        refine ⟨m', hm, i + 1, σ7, H7, I7.unpinned, T.keep _ _ _ st5 fun b hb o e => (I7.pin (b, o) (List.mem_append_right _ (List.mem_append_right _ (mem_pinsAt hb e)))).1, fun b hb => ?_, w7⟩
        obtain ⟨o, e, d⟩ := T.obj _ _ st5 b hb
        exact (I7.pin (b, o) (List.mem_append_right _ (List.mem_append_right _ (mem_pinsAt hb e)))).2.1
      cases b with
      | false =>
        rw [if_neg Bool.false_ne_true] at q7 ⊢
        exact again I7 q7
      | true =>
        rw [if_pos rfl] at q7 ⊢
        refine (thn (he (s2.heap.objs.size + 1) s2 H2 fp _ s7 σ6 H7 _ I7 q7) fun y s8 ⟨yv, H8, I8, ry, xs, hx, hz, n8⟩ => ?_)
        refine (thn (mt_append (X := cxC X N scope cl (s2.heap.objs.size + 1) s2 H2 fp) _ s8 σ6 H8 (.ref s2.heap.objs.size) [yv] (.ref s2.heap.objs.size) [y] (fun _ H' => N' σ6 H') I8 rfl (.cons ry .nil) ⟨_, xs, yv, rfl, rfl, hx, hz, n8⟩) fun _ s9 ⟨_, H9, I9, _, n9⟩ => ?_)
        exact again I9 n9
  have goal := codeAny_compStart_list loop (T.self X.A 0 { s2 with heap := h₁, toks := s2.toks + ([] : List (Str × Value)).length } _ _ st4 loop)
  rw [hC]
  exact goal
end
end L2

set_option Elab.async false
set_option linter.all false
set_option maxRecDepth 100000
set_option maxHeartbeats 4000000
namespace L2
open PySem PySem.Spec PyProof.Rows

/-! ### plain data, and == of what stands in the heap -/
inductive D where
  | non
  | bl (b : Bool)
  | int (i : Int)
  | str (x : Str)
  | tup (l : List D)
  | lst (l : List D)
mutual
def Rep (K : PySem.W.Frag) (H : Hp) : D → V → Prop
  | .non, v => v = .non
  | .bl b, v => v = .bl b
  | .int i, v => v = .int i
  | .str x, v => v = .str x
  | .tup ds, v => ∃ p xs, v = .ref p ∧ SqT K H p xs ∧ Reps K H ds xs
  | .lst ds, v => ∃ p xs, v = .ref p ∧ SqL K H p xs ∧ Reps K H ds xs
def Reps (K : PySem.W.Frag) (H : Hp) : List D → List V → Prop
  | [], xs => xs = []
  | d :: ds, xs => ∃ x r, xs = x :: r ∧ Rep K H d x ∧ Reps K H ds r
end
mutual
def eqD : D → D → Bool
  | .non, .non => true
  | .bl a, .bl b => a == b
  | .bl a, .int b => (if a then 1 else 0) == b
  | .int a, .bl b => a == (if b then 1 else 0)
  | .int a, .int b => a == b
  | .str a, .str b => a == b
  | .tup a, .tup b => eqDs a b
  | .lst a, .lst b => eqDs a b
  | _, _ => false
def eqDs : List D → List D → Bool
  | [], [] => true
  | a :: r, b :: t => eqD a b && eqDs r t
  | _, _ => false
end
mutual
def D.dep : D → Nat
  | .tup l => deps l + 1
  | .lst l => deps l + 1
  | _ => 0
def deps : List D → Nat
  | [] => 0
  | d :: r => max d.dep (deps r)
end
theorem Reps.len {K : PySem.W.Frag} {H : Hp} : ∀ {ds : List D} {xs : List V}, Reps K H ds xs → ds.length = xs.length
  | [], xs, h => by
    unfold Reps at h; subst h; rfl
  | d :: ds, xs, h => by
    unfold Reps at h
    obtain ⟨x, r, rfl, _, h⟩ := h
    rw [List.length_cons, List.length_cons, Reps.len h]
theorem Reps.get {K : PySem.W.Frag} {H : Hp} : ∀ {ds : List D} {xs : List V} {j : Nat} {d : D}, Reps K H ds xs → ds[j]? = some d → ∃ x, xs[j]? = some x ∧ Rep K H d x
  | [], xs, j, d, h, e => by cases e
  | a :: ds, xs, j, d, h, e => by
    unfold Reps at h
    obtain ⟨x, r, rfl, h1, h2⟩ := h
    match j, e with
    | 0, e => cases e; exact ⟨x, rfl, h1⟩
    | j + 1, e => exact Reps.get (ds := ds) (j := j) h2 (by simpa using e)
mutual
theorem eqD_refl : ∀ d : D, eqD d d = true
  | .non => rfl
  | .bl b => by unfold eqD; simp
  | .int i => by unfold eqD; simp
  | .str x => by unfold eqD; simp
  | .tup l => by unfold eqD; exact eqDs_refl l
  | .lst l => by unfold eqD; exact eqDs_refl l
theorem eqDs_refl : ∀ l : List D, eqDs l l = true
  | [] => by unfold eqDs; rfl
  | d :: r => by unfold eqDs; rw [eqD_refl d, eqDs_refl r]; rfl
end
section
variable {X : Cx} {pins : List (Addr × Obj)} {σ : St} {H : Hp} {s : Shared}
theorem Inv.list_tup (I : Inv X pins σ H s) {a : Addr} {xs ys : List V} (h1 : SqL X.K H a xs) (h2 : SqT X.K H a ys) : False := by
  obtain ⟨its, _, ⟨o, n, e1, c1, _⟩, _⟩ := I.list h1
  obtain ⟨its2, _, ⟨o2, e2, c2, _⟩, _⟩ := I.tuple h2
  rw [e1] at e2; cases e2
  rw [c1] at c2
  injection c2 with c3
  exact absurd c3 (by decide)
mutual
theorem rep_inj (I : Inv X pins σ H s) : ∀ (d e : D) (v : V), Rep X.K H d v → Rep X.K H e v → d = e
  | .non, e, v, h1, h2 => by
    unfold Rep at h1; subst h1
    cases e <;> (unfold Rep at h2; first | rfl | (obtain ⟨_, _, z, _⟩ := h2; cases z; done) | cases h2)
  | .bl b, e, v, h1, h2 => by
    unfold Rep at h1; subst h1
    cases e <;> (unfold Rep at h2; first | (obtain ⟨_, _, z, _⟩ := h2; cases z; done) | (cases h2; rfl) | cases h2)
  | .int b, e, v, h1, h2 => by
    unfold Rep at h1; subst h1
    cases e <;> (unfold Rep at h2; first | (obtain ⟨_, _, z, _⟩ := h2; cases z; done) | (cases h2; rfl) | cases h2)
  | .str b, e, v, h1, h2 => by
    unfold Rep at h1; subst h1
    cases e <;> (unfold Rep at h2; first | (obtain ⟨_, _, z, _⟩ := h2; cases z; done) | (cases h2; rfl) | cases h2)
  | .tup l, e, v, h1, h2 => by
    unfold Rep at h1
    obtain ⟨p, xs, rfl, q, r⟩ := h1
    cases e with
    | tup l2 =>
      unfold Rep at h2
      obtain ⟨p2, xs2, z, q2, r2⟩ := h2
      cases z
      rw [I.tuple_inj q2 q] at r2
      rw [reps_inj I l l2 xs r r2]
    | lst l2 =>
      unfold Rep at h2
      obtain ⟨p2, xs2, z, q2, r2⟩ := h2
      cases z
      exact (I.list_tup q2 q).elim
    | _ => unfold Rep at h2; cases h2
  | .lst l, e, v, h1, h2 => by
    unfold Rep at h1
    obtain ⟨p, xs, rfl, q, r⟩ := h1
    cases e with
    | lst l2 =>
      unfold Rep at h2
      obtain ⟨p2, xs2, z, q2, r2⟩ := h2
      cases z
      rw [I.list_inj q2 q] at r2
      rw [reps_inj I l l2 xs r r2]
    | tup l2 =>
      unfold Rep at h2
      obtain ⟨p2, xs2, z, q2, r2⟩ := h2
      cases z
      exact (I.list_tup q q2).elim
    | _ => unfold Rep at h2; cases h2
theorem reps_inj (I : Inv X pins σ H s) : ∀ (ds es : List D) (xs : List V), Reps X.K H ds xs → Reps X.K H es xs → ds = es
  | [], es, xs, h1, h2 => by
    unfold Reps at h1; subst h1
    cases es with
    | nil => rfl
    | cons e es => unfold Reps at h2; obtain ⟨_, _, z, _⟩ := h2; cases z
  | d :: ds, es, xs, h1, h2 => by
    unfold Reps at h1
    obtain ⟨x, r, rfl, a, b⟩ := h1
    cases es with
    | nil => unfold Reps at h2; cases h2
    | cons e es =>
      unfold Reps at h2
      obtain ⟨x2, r2, z, a2, b2⟩ := h2
      cases z
      rw [rep_inj I d e x a a2, reps_inj I ds es r b b2]
end
theorem eqDs_all : ∀ (ds es : List D), ds.length = es.length → (List.range ds.length).all (fun j => match ds[j]?, es[j]? with
    | some d, some e => eqD d e
    | _, _ => false) = eqDs ds es
  | [], [], _ => by unfold eqDs; rfl
  | d :: ds, e :: es, h => by
    rw [List.length_cons, List.range_succ_eq_map, List.all_cons, List.all_map]
    unfold eqDs
    rw [← eqDs_all ds es (by simpa using h)]
    rfl
theorem eqDs_len : ∀ (ds es : List D), ds.length ≠ es.length → eqDs ds es = false
  | [], [], h => absurd rfl h
  | [], _ :: _, _ => by unfold eqDs; rfl
  | _ :: _, [], _ => by unfold eqDs; rfl
  | d :: ds, e :: es, h => by
    unfold eqDs
    rw [eqDs_len ds es (by simpa using h), Bool.and_false]
def eAt (ds es : List D) (j : Nat) : Bool := match ds[j]?, es[j]? with
    | some d, some e => eqD d e
    | _, _ => false
theorem items_eq {A : Around} {ds es : List D} {xs ys : List V} {us vs : List Value} (r1 : Reps X.K H ds xs) (r2 : Reps X.K H es ys) (v1 : Vals xs us) (v2 : Vals ys vs)
    (ih : ∀ (j : Nat) (d e : D) (x y : V) (u v : Value), ds[j]? = some d → es[j]? = some e → Rep X.K H d x → Rep X.K H e y → RelV x u → RelV y v → SeqAt.EqAt A s u v (eqD d e)) :
    ∀ j (h1 : j < us.toArray.size) (h2 : j < vs.toArray.size), SeqAt.EqAt A s us.toArray[j] vs.toArray[j] (eAt ds es j) := by
  intro j h1 h2
  rw [List.size_toArray] at h1 h2
  have l1 := r1.len
  have l2 := r2.len
  have l3 := v1.length
  have l4 := v2.length
  have e1 : ds[j]? = some (ds[j]'(by omega)) := List.getElem?_eq_getElem _
  have e2 : es[j]? = some (es[j]'(by omega)) := List.getElem?_eq_getElem _
  obtain ⟨x, hx, px⟩ := r1.get e1
  obtain ⟨y, hy, py⟩ := r2.get e2
  obtain ⟨u, hu, ru⟩ := v1.get hx
  obtain ⟨v, hv, rv⟩ := v2.get hy
  have q := ih j _ _ x y u v e1 e2 px py ru rv
  have hu' : us.toArray[j]'(by simpa using h1) = u := by
    have := List.getElem?_eq_getElem h1
    rw [hu] at this
    simpa using (Option.some.inj this).symm
  have hv' : vs.toArray[j]'(by simpa using h2) = v := by
    have := List.getElem?_eq_getElem h2
    rw [hv] at this
    simpa using (Option.some.inj this).symm
  rw [hu', hv']
  unfold eAt
  rw [e1, e2]
  exact q
theorem range_lst {ds es : List D} {n : Nat} (h : ds.length = n) (h2 : es.length = n) : (List.range n).all (eAt ds es) = eqDs ds es := by
  rw [← h, ← eqDs_all ds es (h.trans h2.symm)]
  rfl
theorem range_tup {ds es : List D} {n m : Nat} (h : ds.length = n) (h2 : es.length = m) : ((List.range (min n m)).all (eAt ds es) && (n == m)) = eqDs ds es := by
  by_cases e : n = m
  · subst e
    rw [Nat.min_self, range_lst h h2]
    simp
  · have e2 : (n == m) = false := by simpa using e
    rw [e2, Bool.and_false, eqDs_len ds es (by rw [h, h2]; exact e)]
/-- both heads at once: of two lists, of two tuples -/
theorem rc_lists {A : Around} {l b : Addr} {ds es : List D} {xs ys : List V} (I : Inv X pins σ H s) (h1 : SqL X.K H l xs) (h2 : SqL X.K H b ys) (r1 : Reps X.K H ds xs) (r2 : Reps X.K H es ys) (hu : A.units < cLine)
    (ih : ∀ (j : Nat) (d e : D) (x y : V) (u v : Value), ds[j]? = some d → es[j]? = some e → Rep X.K H d x → Rep X.K H e y → RelV x u → RelV y v → SeqAt.EqAt A.in1 s u v (eqD d e)) :
    SeqAt.RcAt A s (.ref l) (.ref b) (eqDs ds es) ∧ SeqAt.RcNeAt A s (.ref l) (.ref b) (!eqDs ds es) := by
  obtain ⟨us, v1, p1, z1⟩ := I.list h1
  obtain ⟨vs, v2, p2, z2⟩ := I.list h2
  have l1 := r1.len
  have l2 := r2.len
  have l3 := v1.length
  have l4 := v2.length
  by_cases e : us.length = vs.length
  · have it := items_eq r1 r2 v1 v2 ih
    have a1 := SeqAt.RcAt.lists (A := A) p1.isList p2.isList (by simpa using e) hu it
    have a2 := SeqAt.RcNeAt.lists (A := A) p1.isList p2.isList (by simpa using e) hu it
    rw [range_lst (ds := ds) (es := es) (by simp; omega) (by simp; omega)] at a1 a2
    exact ⟨a1, a2⟩
  · have ne : (us.toArray.size != vs.toArray.size) = true := by simpa using e
    rw [eqDs_len ds es (by omega)]
    exact ⟨SeqAt.RcAt.lists_lengths p1.isList p2.isList ne hu, SeqAt.RcNeAt.lists_lengths p1.isList p2.isList ne hu⟩
theorem rc_tups {A : Around} {l b : Addr} {ds es : List D} {xs ys : List V} (I : Inv X pins σ H s) (h1 : SqT X.K H l xs) (h2 : SqT X.K H b ys) (r1 : Reps X.K H ds xs) (r2 : Reps X.K H es ys) (hu : A.units < cLine)
    (ih : ∀ (j : Nat) (d e : D) (x y : V) (u v : Value), ds[j]? = some d → es[j]? = some e → Rep X.K H d x → Rep X.K H e y → RelV x u → RelV y v → SeqAt.EqAt A.in1 s u v (eqD d e)) :
    SeqAt.RcAt A s (.ref l) (.ref b) (eqDs ds es) ∧ SeqAt.RcNeAt A s (.ref l) (.ref b) (!eqDs ds es) := by
  obtain ⟨us, v1, p1, z1⟩ := I.tuple h1
  obtain ⟨vs, v2, p2, z2⟩ := I.tuple h2
  have l1 := r1.len
  have l2 := r2.len
  have l3 := v1.length
  have l4 := v2.length
  have it := items_eq r1 r2 v1 v2 ih
  have a1 := SeqAt.RcAt.tuples (A := A) (show s.heap.IsTuple l us.toArray from p1) (show s.heap.IsTuple b vs.toArray from p2) hu it
  have a2 := SeqAt.RcNeAt.tuples (A := A) (show s.heap.IsTuple l us.toArray from p1) (show s.heap.IsTuple b vs.toArray from p2) hu it
  rw [range_tup (ds := ds) (es := es) (by simp; omega) (by simp; omega)] at a1 a2
  exact ⟨a1, a2⟩
theorem deps_get : ∀ {l : List D} {j : Nat} {d : D}, l[j]? = some d → d.dep ≤ deps l
  | a :: l, 0, d, e => by cases e; unfold deps; omega
  | a :: l, j + 1, d, e => by
    have := deps_get (l := l) (j := j) (d := d) (by simpa using e)
    unfold deps; omega
theorem rep_eq (I : Inv X pins σ H s) : ∀ (n : Nat) (A : Around) (d e : D) (x y : V) (u v : Value), d.dep ≤ n → A.units + n < cLine → Rep X.K H d x → Rep X.K H e y → RelV x u → RelV y v → SeqAt.EqAt A s u v (eqD d e) := by
  intro n
  induction n with
  | zero =>
    intro A d e x y u v hd hu r1 r2 ru rv
    have hu0 : A.units < cLine := by omega
    cases d with
    | tup l => unfold D.dep at hd; omega
    | lst l => unfold D.dep at hd; omega
    | non =>
      unfold Rep at r1; subst r1; cases ru
      cases e with
      | non => unfold Rep at r2; subst r2; cases rv; exact SeqAt.EqAt.same _
      | bl b => unfold Rep at r2; subst r2; cases rv; exact SeqAt.EqAt.none_bool b
      | int b => unfold Rep at r2; subst r2; obtain ⟨t, rfl⟩ := rv; exact SeqAt.EqAt.none_int b t
      | str b => unfold Rep at r2; subst r2; obtain ⟨t, rfl⟩ := rv; exact SeqAt.EqAt.none_str b t
      | tup l => unfold Rep at r2; obtain ⟨p, xs, rfl, q, _⟩ := r2; cases rv; obtain ⟨us, _, pt, _⟩ := I.tuple q; exact SeqAt.EqAt.none_tuple (show s.heap.IsTuple p us.toArray from pt) hu0
      | lst l => unfold Rep at r2; obtain ⟨p, xs, rfl, q, _⟩ := r2; cases rv; obtain ⟨us, _, pt, _⟩ := I.list q; exact SeqAt.EqAt.none_list pt.isList hu0
    | bl a =>
      unfold Rep at r1; subst r1; cases ru
      cases e with
      | non => unfold Rep at r2; subst r2; cases rv; exact SeqAt.EqAt.bool_none a
      | bl b => unfold Rep at r2; subst r2; cases rv; exact SeqAt.EqAt.bool_bool a b
      | int b => unfold Rep at r2; subst r2; obtain ⟨t, rfl⟩ := rv; exact SeqAt.EqAt.bool_int a b t
      | str b => unfold Rep at r2; subst r2; obtain ⟨t, rfl⟩ := rv; exact SeqAt.EqAt.bool_str a b t
      | tup l => unfold Rep at r2; obtain ⟨p, xs, rfl, q, _⟩ := r2; cases rv; obtain ⟨us, _, pt, _⟩ := I.tuple q; exact SeqAt.EqAt.bool_tuple a (show s.heap.IsTuple p us.toArray from pt) hu0
      | lst l => unfold Rep at r2; obtain ⟨p, xs, rfl, q, _⟩ := r2; cases rv; obtain ⟨us, _, pt, _⟩ := I.list q; exact SeqAt.EqAt.bool_list a pt.isList hu0
    | int a =>
      unfold Rep at r1; subst r1; obtain ⟨t1, rfl⟩ := ru
      cases e with
      | non => unfold Rep at r2; subst r2; cases rv; exact SeqAt.EqAt.int_none a t1
      | bl b => unfold Rep at r2; subst r2; cases rv; exact SeqAt.EqAt.int_bool a t1 b
      | int b => unfold Rep at r2; subst r2; obtain ⟨t, rfl⟩ := rv; exact SeqAt.EqAt.int_int a t1 b t
      | str b => unfold Rep at r2; subst r2; obtain ⟨t, rfl⟩ := rv; exact SeqAt.EqAt.int_str a t1 b t
      | tup l => unfold Rep at r2; obtain ⟨p, xs, rfl, q, _⟩ := r2; cases rv; obtain ⟨us, _, pt, _⟩ := I.tuple q; exact SeqAt.EqAt.int_tuple a t1 (show s.heap.IsTuple p us.toArray from pt) hu0
      | lst l => unfold Rep at r2; obtain ⟨p, xs, rfl, q, _⟩ := r2; cases rv; obtain ⟨us, _, pt, _⟩ := I.list q; exact SeqAt.EqAt.int_list a t1 pt.isList hu0
    | str a =>
      unfold Rep at r1; subst r1; obtain ⟨t1, rfl⟩ := ru
      cases e with
      | non => unfold Rep at r2; subst r2; cases rv; exact SeqAt.EqAt.str_none a t1
      | bl b => unfold Rep at r2; subst r2; cases rv; exact SeqAt.EqAt.str_bool a t1 b
      | int b => unfold Rep at r2; subst r2; obtain ⟨t, rfl⟩ := rv; exact SeqAt.EqAt.str_int a t1 b t
      | str b => unfold Rep at r2; subst r2; obtain ⟨t, rfl⟩ := rv; exact SeqAt.EqAt.str_str a t1 b t
      | tup l => unfold Rep at r2; obtain ⟨p, xs, rfl, q, _⟩ := r2; cases rv; obtain ⟨us, _, pt, _⟩ := I.tuple q; exact SeqAt.EqAt.str_tuple a t1 (show s.heap.IsTuple p us.toArray from pt) hu0
      | lst l => unfold Rep at r2; obtain ⟨p, xs, rfl, q, _⟩ := r2; cases rv; obtain ⟨us, _, pt, _⟩ := I.list q; exact SeqAt.EqAt.str_list a t1 pt.isList hu0
  | succ n ihn =>
    intro A d e x y u v hd hu r1 r2 ru rv
    have hu0 : A.units < cLine := by omega
    have hu1 : A.in1.units + n < cLine := by show A.units + 1 + n < cLine; omega
    cases d with
    | tup l =>
      have r1' := r1
      unfold Rep at r1
      obtain ⟨p, xs, rfl, q, rs⟩ := r1
      cases ru
      have hd' : deps l ≤ n := by unfold D.dep at hd; omega
      obtain ⟨us, _, pt, _⟩ := id (I.tuple q)
      cases e with
      | non => unfold Rep at r2; subst r2; cases rv; exact SeqAt.EqAt.tuple_none (show s.heap.IsTuple p us.toArray from pt) hu0
      | bl b => unfold Rep at r2; subst r2; cases rv; exact SeqAt.EqAt.tuple_bool b (show s.heap.IsTuple p us.toArray from pt) hu0
      | int b => unfold Rep at r2; subst r2; obtain ⟨t, rfl⟩ := rv; exact SeqAt.EqAt.tuple_int b t (show s.heap.IsTuple p us.toArray from pt) hu0
      | str b => unfold Rep at r2; subst r2; obtain ⟨t, rfl⟩ := rv; exact SeqAt.EqAt.tuple_str b t (show s.heap.IsTuple p us.toArray from pt) hu0
      | tup l2 =>
        have r2' := r2
        unfold Rep at r2
        obtain ⟨p2, xs2, rfl, q2, rs2⟩ := r2
        cases rv
        by_cases hp : p = p2
        · subst hp
          rw [rep_inj I _ _ _ r1' r2', eqD_refl]
          exact SeqAt.EqAt.same _
        · unfold eqD
          exact SeqAt.EqAt.of_refs hp (rc_tups I q q2 rs rs2 hu0 fun j d e x y u v e1 e2 a b c f => ihn A.in1 d e x y u v (Nat.le_trans (deps_get e1) hd') hu1 a b c f).1
      | lst l2 =>
        unfold Rep at r2
        obtain ⟨p2, xs2, rfl, q2, rs2⟩ := r2
        cases rv
        obtain ⟨us2, _, pt2, _⟩ := I.list q2
        exact SeqAt.EqAt.tuple_list (show s.heap.IsTuple p us.toArray from pt) pt2.isList hu0
    | lst l =>
      have r1' := r1
      unfold Rep at r1
      obtain ⟨p, xs, rfl, q, rs⟩ := r1
      cases ru
      have hd' : deps l ≤ n := by unfold D.dep at hd; omega
      obtain ⟨us, _, pt, _⟩ := id (I.list q)
      cases e with
      | non => unfold Rep at r2; subst r2; cases rv; exact SeqAt.EqAt.list_none pt.isList hu0
      | bl b => unfold Rep at r2; subst r2; cases rv; exact SeqAt.EqAt.list_bool b pt.isList hu0
      | int b => unfold Rep at r2; subst r2; obtain ⟨t, rfl⟩ := rv; exact SeqAt.EqAt.list_int b t pt.isList hu0
      | str b => unfold Rep at r2; subst r2; obtain ⟨t, rfl⟩ := rv; exact SeqAt.EqAt.list_str b t pt.isList hu0
      | lst l2 =>
        have r2' := r2
        unfold Rep at r2
        obtain ⟨p2, xs2, rfl, q2, rs2⟩ := r2
        cases rv
        by_cases hp : p = p2
        · subst hp
          rw [rep_inj I _ _ _ r1' r2', eqD_refl]
          exact SeqAt.EqAt.same _
        · unfold eqD
          exact SeqAt.EqAt.of_refs hp (rc_lists I q q2 rs rs2 hu0 fun j d e x y u v e1 e2 a b c f => ihn A.in1 d e x y u v (Nat.le_trans (deps_get e1) hd') hu1 a b c f).1
      | tup l2 =>
        unfold Rep at r2
        obtain ⟨p2, xs2, rfl, q2, rs2⟩ := r2
        cases rv
        obtain ⟨us2, _, pt2, _⟩ := I.tuple q2
        exact SeqAt.EqAt.list_tuple pt.isList (show s.heap.IsTuple p2 us2.toArray from pt2) hu0
    | _ => exact ihn A _ e x y u v (by unfold D.dep; exact Nat.zero_le _) (by omega) r1 r2 ru rv
/-- == and != of two lists, of two tuples, whatever stands in them (data) -/
def rEqS (K : PySem.W.Frag) (neg : Bool) : R2 := fun x y H Q => ∃ ds es, ((Rep K H (.lst ds) x ∧ Rep K H (.lst es) y) ∨ (Rep K H (.tup ds) x ∧ Rep K H (.tup es) y)) ∧ deps ds ≤ 50 ∧ Q (.bl (if neg then !eqDs ds es else eqDs ds es)) H
theorem rc_both (I : Inv X pins σ H s) {x y : V} {u v : Value} {ds es : List D} (hA : X.A.units + 60 < cLine) (ru : RelV x u) (rv : RelV y v) (h : (Rep X.K H (.lst ds) x ∧ Rep X.K H (.lst es) y) ∨ (Rep X.K H (.tup ds) x ∧ Rep X.K H (.tup es) y)) (hd : deps ds ≤ 50) :
    SeqAt.RcAt X.A s u v (eqDs ds es) ∧ SeqAt.RcNeAt X.A s u v (!eqDs ds es) := by
  have ih : ∀ (j : Nat) (d e : D) (x y : V) (u v : Value), ds[j]? = some d → es[j]? = some e → Rep X.K H d x → Rep X.K H e y → RelV x u → RelV y v → SeqAt.EqAt X.A.in1 s u v (eqD d e) :=
    fun j d e x y u v e1 e2 a b c f => rep_eq I 50 X.A.in1 d e x y u v (Nat.le_trans (deps_get e1) hd) (by show X.A.units + 1 + 50 < cLine; omega) a b c f
  rcases h with ⟨h1, h2⟩ | ⟨h1, h2⟩
  · unfold Rep at h1 h2
    obtain ⟨p, xs, rfl, q, rs⟩ := h1
    obtain ⟨p2, xs2, rfl, q2, rs2⟩ := h2
    cases ru; cases rv
    exact rc_lists I q q2 rs rs2 (by omega) ih
  · unfold Rep at h1 h2
    obtain ⟨p, xs, rfl, q, rs⟩ := h1
    obtain ⟨p2, xs2, rfl, q2, rs2⟩ := h2
    cases ru; cases rv
    exact rc_tups I q q2 rs rs2 (by omega) ih
theorem op_neS (hA : X.A.units + 60 < cLine) : OpR X (compareOp .NotEq) (rEqS X.K true) := by
  intro pins s σ H x y u v Q I ru rv h
  obtain ⟨ds, es, h, hd, q⟩ := h
  exact (rc_both I hA ru rv h hd).2 X.prog X.w X.xe _ ⟨.bl (!eqDs ds es), H, I, rfl, q⟩
theorem op_eqNil (hA : X.A.units + 60 < cLine) : OpR X (compareOp .Eq) (fun x y H Q => ∃ p b xs, x = .ref p ∧ y = .ref b ∧ SqL X.K H p xs ∧ SqL X.K H b [] ∧ Q (.bl xs.isEmpty) H) := by
  intro pins s σ H x y u v Q I ru rv h
  obtain ⟨p, b, xs, rfl, rfl, q1, q2, q⟩ := h
  cases ru; cases rv
  obtain ⟨us, v1, p1, _⟩ := I.list q1
  obtain ⟨vs, v2, p2, _⟩ := I.list q2
  cases v2
  cases v1 with
  | nil =>
    have a := SeqAt.RcAt.lists (A := X.A) (e := fun _ => true) p1.isList p2.isList rfl (by omega) (fun j h1 _ => absurd h1 (by simp))
    exact a X.prog X.w X.xe _ ⟨.bl true, H, I, rfl, q⟩
  | cons r1 r2 =>
    exact SeqAt.RcAt.lists_lengths (A := X.A) p1.isList p2.isList (by simp) (by omega) X.prog X.w X.xe _ ⟨.bl false, H, I, rfl, q⟩
theorem reps_ints {K : PySem.W.Frag} {H : Hp} : ∀ ns : List Int, Reps K H (ns.map D.int) (ns.map V.int)
  | [] => by show Reps K H [] []; unfold Reps; rfl
  | n :: r => by show Reps K H (D.int n :: r.map D.int) (V.int n :: r.map V.int); unfold Reps; exact ⟨_, _, rfl, (by unfold Rep; rfl), reps_ints r⟩
theorem deps_ints : ∀ ns : List Int, deps (ns.map D.int) = 0
  | [] => by rw [List.map_nil]; unfold deps; rfl
  | n :: r => by rw [List.map_cons]; unfold deps; rw [deps_ints r]; unfold D.dep; rfl
end
end L2

set_option Elab.async false
set_option linter.all false
set_option maxRecDepth 100000
set_option maxHeartbeats 4000000
namespace L2
open PySem PySem.Spec PyProof.Rows
section
variable {X : Cx} {pos : Pos}
/-- (a, b, ..) = a list of that length -/
def gLst (K : PySem.W.Frag) (n : Nat) (t : TGs) : TG := fun v σ H Q => ∃ a xs, v = .ref a ∧ SqL K H a xs ∧ xs.length = n ∧ t xs σ H Q
theorem pg_lst {es : List Expr} {k : Nat} {t : TGs} {n : Nat} (hc : X.calm = true) (h : PGs X es t)
    (hn : (assignEach es X.env).length = n := by rfl) (hst : (assignEach es X.env).findIdx? (·.1) = none := by rfl) : PG X (.Tuple es k pos) (gLst X.K n t) := by
  intro pins s σ H v u Q I r hw
  obtain ⟨a, xs, e1, hq, hl, hw⟩ := hw
  subst e1
  cases r
  obtain ⟨its, rv, ht, hz⟩ := I.list hq
  rw [assign_Tuple]
  refine wpAny_bind (wpAny_standAt ?_)
  unfold unpack
  rw [show (assignEach es X.env).length = its.toArray.size by simp [hn, ← hl, rv.length], hst]
  refine wpAny_bind (wpAny_holding (PySem.W.kun_itemsOf (I.ok.hd hc) ht.isList fun h' hx => ?_))
  have I1 : Inv X pins σ H { s with heap := h' } := I.kept (t' := s.toks) fun b o e => hx b o (Nat.ne_of_lt (Heap.lt_size e)) e
  exact h pins _ σ H xs _ Q I1 (by simpa using rv) hw
theorem hu60 {k : Nat} {A : Around} (hr : Room k A) : A.units + 60 < cLine := by have := hr.units; omega
/-! the names of a comprehension's block -/
def outChk (XN : List Str) (xn : List (Str × NameKind)) (N : List Str) (cn : List (Str × NameKind)) : List (Option Nat) → Nat → Bool
  | [], _ => true
  | none :: r, i => outChk XN xn N cn r (i + 1)
  | some j :: r, i => (match N[i]? with
    | some x => XN[j]? == some x && (xn.lookup x == some .cell || xn.lookup x == some .free) && cn.lookup x == some .free
    | none => false) && outChk XN xn N cn r (i + 1)
theorem outChk_ok {XN : List Str} {xn : List (Str × NameKind)} {N : List Str} {cn : List (Str × NameKind)} : ∀ {mp : List (Option Nat)} {k : Nat}, outChk XN xn N cn mp k = true → ∀ (i j : Nat), mp[i]? = some (some j) → ∃ x, N[k + i]? = some x ∧ XN[j]? = some x ∧ (xn.lookup x = some .cell ∨ xn.lookup x = some .free) ∧ cn.lookup x = some .free
  | [], k, h, i, j, e => by cases e
  | none :: r, k, h, 0, j, e => by cases e
  | none :: r, k, h, i + 1, j, e => by
    have := outChk_ok (mp := r) (k := k + 1) h i j (by simpa using e)
    rw [show k + (i + 1) = k + 1 + i by omega]; exact this
  | some m :: r, k, h, 0, j, e => by
    cases e
    unfold outChk at h
    rw [Bool.and_eq_true] at h
    have h1 := h.1
    cases en : N[k]? with
    | none => rw [en] at h1; cases h1
    | some x =>
      rw [en] at h1
      simp only [Bool.and_eq_true, Bool.or_eq_true, beq_iff_eq] at h1
      exact ⟨x, rfl, h1.1.1, h1.1.2, h1.2⟩
  | some m :: r, k, h, i + 1, j, e => by
    unfold outChk at h
    rw [Bool.and_eq_true] at h
    have := outChk_ok (mp := r) (k := k + 1) h.2 i j (by simpa using e)
    rw [show k + (i + 1) = k + 1 + i by omega]; exact this
theorem cs_of {N : List Str} {scope : Scope} (mp : List (Option Nat)) (h1 : scope.kind = .function) (h2 : ∀ y ∈ scope.names, y.2 ≠ .cell) (h3 : ∀ y ∈ scope.names, y.2 = .local → scope.names.lookup y.1 = some .local) (h4 : mp.length = N.length)
    (h5 : outChk X.N X.env.scope.names N scope.names mp 0 = true) : CompScope X N mp scope :=
  ⟨h1, h2, h3, h4, fun i j e => by
    obtain ⟨x, a, b, c, d⟩ := outChk_ok h5 i j e
    exact ⟨x, by simpa using a, b, c, d⟩⟩
/-- behind a turn of a comprehension; ys: what was put into the new list so far -/
def NextC (Pv : Nat → List V → St → Hp → Prop) (D : Addr) (i : Nat) : St → Hp → Prop := fun σ' H' => ∃ ys, ys.length ≤ i + 1 ∧ Pv (i + 1) ys σ' H' ∧ H' D = some (.lst ys)
/-- a comprehension over a list, a tuple: by what holds at each turn -/
theorem comp_list {K : PySem.W.Frag} {a : Addr} {xs : List V} {H1 : Hp} {D : Addr} {σ0 : St} {g : TG} {tt : TT} {te : TE} {R : Hp → Prop}
    (Pv : Nat → List V → St → Hp → Prop) (hl : ∀ i ys σ H2, Pv i ys σ H2 → SqL K H2 a xs) (h0 : Pv 0 [] σ0 (upd H1 D (.lst [])))
    (hs : ∀ i x ys σ H2, xs[i]? = some x → ys.length ≤ i → Pv i ys σ H2 → H2 D = some (.lst ys) → g x σ H2 fun σ3 H3 => tt σ3 H3 fun b H4 => if b = true then te σ3 H4 fun y H5 => ∃ zs, H5 D = some (.lst zs) ∧ zs.length < sizeLine ∧ NextC Pv D i σ3 (upd H5 D (.lst (zs ++ [y]))) else NextC Pv D i σ3 H4)
    (hd : ∀ ys σ H2, Pv xs.length ys σ H2 → H2 D = some (.lst ys) → R H2) :
    ∃ W : Nat → Nat → St → Hp → Prop, (∃ m, W 0 m σ0 (upd H1 D (.lst []))) ∧ ∀ i m σ2 H2, W i m σ2 H2 →
    ((Itl K a).stop i H2 ∧ R H2) ∨ ((Itl K a).go i H2 ∧ ∃ N : St → Hp → Prop, (∀ σ' H', N σ' H' → ∃ m', m' < m ∧ W (i + 1) m' σ' H') ∧ ∀ x H', (Itl K a).yld i H2 x H' → g x σ2 H' fun σ3 H3 => tt σ3 H3 fun b H4 =>
      if b = true then te σ3 H4 fun y H5 => ∃ xs, H5 D = some (.lst xs) ∧ xs.length < sizeLine ∧ N σ3 (upd H5 D (.lst (xs ++ [y]))) else N σ3 H4) := by
  refine ⟨fun i m σ H' => m = xs.length - i ∧ i ≤ xs.length ∧ ∃ ys, ys.length ≤ i ∧ Pv i ys σ H' ∧ H' D = some (.lst ys), ⟨xs.length, by simp, Nat.zero_le _, [], Nat.le_refl _, h0, upd_same⟩, ?_⟩
  rintro i m σ2 H2 ⟨rfl, hi, ys, hy, p, e⟩
  have q := hl i ys σ2 H2 p
  by_cases hlt : i < xs.length
  · refine .inr ⟨⟨xs, xs[i], q, by simp [hlt]⟩, NextC Pv D i, fun σ' H' ⟨ys', l', p', e'⟩ => ⟨xs.length - (i + 1), by omega, rfl, hlt, ys', l', p', e'⟩, fun x' H' y => ?_⟩
    obtain ⟨e1, y⟩ := y
    subst e1
    exact hs i x' ys σ2 _ (y xs q) hy p e
  · have ei : i = xs.length := by omega
    subst ei
    exact .inl ⟨⟨xs, q, Nat.le_refl _⟩, hd ys σ2 H2 p e⟩
end
end L2

set_option Elab.async false
set_option linter.all false
set_option maxRecDepth 100000
set_option maxHeartbeats 4000000
namespace L2
open PySem PySem.Spec PyProof.Rows

/-! ### zip of two tuples -/
section
variable {prog : Program} {w : World} {A : Around} {E : Value → Shared → Prop} {s : Shared}
end

/-! its making, and the loop over it -/
section
variable {prog : Program} {w : World} {A : Around} {E : Value → Shared → Prop} {s : Shared}
end
section
variable {X : Cx} {es : List Expr} {kk : Nat} {tpos : Pos}
end
end L2

set_option Elab.async false
set_option linter.all false
set_option maxRecDepth 100000
set_option maxHeartbeats 4000000
namespace L2
open PySem PySem.Spec PyProof.Rows PySem.Builtin.Str

/-- the signs of a text, as numbers -/
abbrev cs (x : Str) : List Nat := x.cps.toList
theorem cs_len (x : Str) : (cs x).length = x.length := by show x.cps.toList.length = x.cps.size; simp
theorem cs_app (x y : Str) : cs (x ++ y) = cs x ++ cs y := by
  show (x.cps ++ y.cps).toList = _
  simp
theorem str_ext {x y : Str} (h : cs x = cs y) : x = y := by
  obtain ⟨a⟩ := x
  obtain ⟨b⟩ := y
  have e : a = b := Array.toList_inj.mp h
  rw [e]
def cutG {α : Type} (xs : List α) (lo hi : Option Int) : List α := (xs.drop (HT.sIx xs.length 0 lo)).take (HT.sIx xs.length xs.length hi - HT.sIx xs.length 0 lo)
theorem strIdx (lo hi : Option Int) (n : Nat) : strSliceIndices lo hi 1 n = (List.range (HT.sIx n n hi - HT.sIx n 0 lo)).map (HT.sIx n 0 lo + ·) := by
  obtain ⟨h1, h2, h3⟩ := slice_bounds lo hi n
  have e : strSliceIndices lo hi 1 n = sliceRange (sliceBounds lo hi none n).1 (sliceBounds lo hi none n).2.1 (sliceBounds lo hi none n).2.2 := rfl
  rw [e, h1, h2, h3, sliceRange_one]
theorem slice_cs (x : Str) (lo hi : Option Int) : cs (Txt.slice x lo hi) = cutG (cs x) lo hi := by
  have key : (strSliceIndices lo hi 1 x.length).filterMap (x.cps[·]?) = cutG (cs x) lo hi := by
    rw [strIdx, pick_run]
    unfold cutG
    rw [cs_len]
  unfold Txt.slice
  split
  · rename_i h
    simp only [beq_self_eq_true, Bool.true_and, beq_iff_eq] at h
    have hl : (cutG (cs x) lo hi).length = (cs x).length := by
      rw [strIdx, List.length_map, List.length_range] at h
      unfold cutG
      rw [List.length_take, List.length_drop, cs_len, h]
      have a1 := HT.sIx_le x.length 0 (Nat.zero_le _) lo
      have a2 := HT.sIx_le x.length x.length (Nat.le_refl _) hi
      omega
    have : cutG (cs x) lo hi = cs x := by
      have sub : (cutG (cs x) lo hi).Sublist (cs x) := (List.take_sublist _ _).trans (List.drop_sublist _ _)
      exact sub.eq_of_length hl
    exact this.symm
  · show ((strSliceIndices lo hi 1 x.length).filterMap (x.cps[·]?)).toArray.toList = _
    rw [key]
section
variable {X : Cx}
/-- x[lo:hi] of a text -/
def rSlS : V → Option Int → Option Int → Hp → VK → Prop := fun x lo hi H Q => ∃ z, x = .str z ∧ z.length ≤ sizeLine ∧ ∀ y : Str, cs y = cutG (cs z) lo hi → Q (.str y) H
theorem sl_str : SlR X rSlS := by
  intro pins s σ H x v vl vu lo hi sl Q I rx hs pl pu h
  obtain ⟨z, rfl, zl, q⟩ := h
  obtain ⟨t, rfl⟩ := rx
  refine ⟨"str", _, F.slot_str_getitem.lookup, typeIs_str _ _ _, ?_⟩
  obtain ⟨o, ho, hc, hd⟩ := hs
  obtain ⟨l, hl1, hl2⟩ : ∃ l : Option (Int × Tok), vl = partValue l ∧ l.map (·.1) = lo := by
    cases pl with
    | none => exact ⟨none, rfl, rfl⟩
    | int i t => exact ⟨some (i, t), rfl, rfl⟩
  obtain ⟨u, hu1, hu2⟩ : ∃ u : Option (Int × Tok), vu = partValue u ∧ u.map (·.1) = hi := by
    cases pu with
    | none => exact ⟨none, rfl, rfl⟩
    | int i t => exact ⟨some (i, t), rfl, rfl⟩
  refine wpAny_getItem_str_slice (l := l) (u := u) (st := none) ⟨o, ho, hc, by rw [hd, hl1, hu1]; rfl⟩ rfl ?_
  have e := slice_cs z lo hi
  have q' := q (Txt.slice z lo hi) e
  unfold sliceMade slicePicked
  rw [hl2, hu2]
  unfold Txt.slice at q'
  show (if ((1 : Int) == 1 && (strSliceIndices lo hi 1 z.length).length == z.length) = true then Made.val (Value.str z t) else Made.str ⟨((strSliceIndices lo hi 1 z.length).filterMap (z.cps[·]?)).toArray⟩).post (EP X pins σ Q) s
  by_cases hw : ((1 : Int) == 1 && (strSliceIndices lo hi 1 z.length).length == z.length) = true
  · rw [if_pos hw] at q' ⊢
    exact ⟨.str z, H, I, ⟨t, rfl⟩, q'⟩
  · rw [if_neg hw] at q' ⊢
    refine ⟨?_, .str _, H, I.tok _, ⟨_, rfl⟩, q'⟩
    show ((strSliceIndices lo hi 1 z.length).filterMap (z.cps[·]?)).toArray.size ≤ sizeLine
    rw [List.size_toArray]
    exact Nat.le_trans (List.length_filterMap_le _ _) (Nat.le_trans (sliceIndices_le lo hi z.length) zl)
theorem strs_of : ∀ {ys : List Str} {us : List Value}, Vals (ys.map V.str) us → StrsAre us ys
  | [], us, r => by rw [List.map_nil] at r; cases r; exact .nil
  | y :: ys, us, r => by
    rw [List.map_cons] at r
    cases r with
    | cons r1 r2 =>
      obtain ⟨t, e⟩ := r1
      subst e
      exact .cons y t (strs_of r2)
/-- sep.join(texts) -/
theorem mt_join : MtR X "str.join" (fun x xs H Q => ∃ (sep : Str) (p : Addr) (ys : List Str), x = .str sep ∧ xs = [.ref p] ∧ SqL X.K H p (ys.map V.str) ∧ (ys.map (·.length)).sum + ys.length * sep.length ≤ 16777216 ∧ Q (.str (Txt.join sep ys)) H) := by
  intro pins s σ H x xs v us Q I rx rs h
  obtain ⟨sep, p, ys, rfl, rfl, hS, hz, q⟩ := h
  obtain ⟨t, rfl⟩ := rx
  obtain ⟨u, rfl, ru⟩ := vals1 rs
  cases ru
  obtain ⟨its, rv, pl, _⟩ := I.list hS
  exact join_list pl.isList (strs_of rv) hz fun t' k => ⟨.str _, H, I.tok k, ⟨t', rfl⟩, q⟩
theorem mt_startswith : MtR X "str.startswith" (fun x xs H Q => ∃ (z y : Str), x = .str z ∧ xs = [.str y] ∧ Q (.bl (decide (0 + y.length ≤ z.length) && subAt z y 0)) H) := by
  intro pins s σ H x xs v us Q I rx rs h
  obtain ⟨z, y, rfl, rfl, q⟩ := h
  obtain ⟨t, rfl⟩ := rx
  obtain ⟨u, rfl, ⟨t2, rfl⟩⟩ := vals1 rs
  exact call_gives F.slot_str_startswith (typeIs_str _ _ _) F.entry_str_startswith (F.args_str_startswith_2 _ _) (gives_str_startswith z y t t2) ⟨.bl _, H, I, rfl, q⟩
/-- int(text) -/
theorem call_int_text : CallR X (.type "int") (fun xs H Q => ∃ (x : Str) (n : Int), xs = [.str x] ∧ PySem.intText? x = some n ∧ x.length ≤ 640 ∧ Q (.int n) H) := by
  intro pins s σ H xs us Q I r h
  obtain ⟨x, n, rfl, hn, hl, q⟩ := h
  obtain ⟨u, rfl, t, rfl⟩ := vals1 r
  exact PySem.W.KIN.call_text hn hl ⟨.int n, H, I.tok _, ⟨_, rfl⟩, q⟩
/-- one sign in a text -/
theorem op_in_one : OpR X (compareOp .In) (fun x y H Q => ∃ (c : Nat) (z : Str), x = .str ⟨#[c]⟩ ∧ y = .str z ∧ Q (.bl (decide (c ∈ cs z))) H) := by
  intro pins s σ H x y v u Q I rx ry h
  obtain ⟨c, z, rfl, rfl, q⟩ := h
  refine op_in_str pins s σ H _ _ v u Q I rx ry ⟨_, z, rfl, rfl, ?_⟩
  rw [StrLaws.found_one]
  exact q
end
end L2

set_option Elab.async false
set_option linter.all false
set_option maxRecDepth 100000
set_option maxHeartbeats 4000000
namespace L2
open PySem PySem.Spec PyProof.Rows PySem.Builtin.Str
section
variable {prog : Program} {w : World} {A : Around} {E : Value → Shared → Prop} {s : Shared}
theorem setItem_sliceG {l b sl : Addr} {items new : Array Value} {n n2 : Nat} {vl vu : Value} {lo hi : Option Int} {a c : Nat} {Q : Unit → Shared → Prop}
    (e : s.heap.get? l = some { cls := .type "list", data := .seq items n }) (e2 : s.heap.get? b = some { cls := .type "list", data := .seq new n2 }) (hne : l ≠ b)
    (hs : s.heap.IsSliceOf sl vl vu .none) (pl : IsPart vl lo) (pu : IsPart vu hi) (hbd : sliceBounds lo hi none items.size = ((a : Int), (c : Int), 1)) (hac : a ≤ c) (hc : c ≤ items.size)
    (hsz : items.size + new.size ≤ sizeLine) (h : Q () { s with heap := s.heap.update l (Obj.mapSeq fun xs => xs.extract 0 a ++ new ++ xs.extract c xs.size) }) :
    wpAny (model prog w) A (setItem (.ref l) (.ref sl) (.ref b)) Q E s := by
  have hl : s.heap.IsList l items := PySem.IsL.isList e
  have hb : s.heap.IsList b new := PySem.IsL.isList e2
  obtain ⟨os, hos, hcs, hds⟩ := id hs
  have hTs : s.TypeIs (.ref sl) "slice" := ⟨os, hos, hcs⟩
  have hstep : ¬ ((rawPart none == rawInt 0) = true) := Bool.false_ne_true
  have hsame : Builtin.List.listSameRef (.ref l) (.ref b) = false := by
    unfold Builtin.List.listSameRef
    exact beq_eq_false_iff_ne.mpr hne
  have hmax : (max (a : Int) (c : Int)).toNat = c := by omega
  have hz' : ((fun xs : Array Value => xs.extract 0 a ++ new ++ xs.extract c xs.size) items).size ≤ sizeLine + 1 := by
    simp only [Array.size_append, Array.size_extract]
    omega
  unfold setItem
  try with_reducible refine wpAny_holding ?_
  first | refine wpAny_bind (wpAny_pure ?_) | skip
  refine wpAny_bind (wpAny_sequenceKey hl.typeIs (by decide) ?_)
  refine wpAny_bind (wpAny_callSpecial?_slot (name := Str.ofString "__setitem__") hl.typeIs slot_list_setitem
    (wpAny_call_entry slot_list_setitem hl.typeIs entry_list_setitem ?_ (args_list_setitem _ _ _)))
  show wpAny _ _ (Builtin.List.listSubscript? (.ref sl) >>= _) _ _ s
  refine wpAny_bind ?_
  unfold Builtin.List.listSubscript?
  refine wpAny_bind (wpAny_specialOf hTs slice_no_index ?_)
  simp only [Option.isNone_none, if_true]
  refine wpAny_pure ?_
  show wpAny _ _ (typeOf (.ref sl) >>= _) _ _ s
  refine wpAny_bind (wpAny_typeOf hTs ?_)
  first
    | rw [if_neg (by decide)]
    | refine PySem.W.KFB.if_not (by decide) ?_
  rw [listSliceParts_eq]
  refine wpAny_bind (wpAny_bind (wpAny_field hos hds (x := .none) rfl (wpAny_bind (wpAny_listPart .none ?_))))
  rw [if_neg hstep]
  refine wpAny_bind (wpAny_field hos hds (x := vl) rfl (wpAny_bind (wpAny_listPart pl ?_)))
  refine wpAny_bind (wpAny_field hos hds (x := vu) rfl (wpAny_bind (wpAny_listPart pu (wpAny_pure ?_))))
  first
    | simp only [hsame, Bool.false_eq_true, if_false]
    | refine PySem.W.KFB.if_not hsame ?_
    | (dsimp only
       rw [if_neg (by rw [hsame]; exact Bool.false_ne_true)])
  refine wpAny_bind (m := Builtin.List.listAllItems (.ref b) "must assign iterable to extended slice") ?_
  unfold Builtin.List.listAllItems
  refine wpAny_bind (wpAny_typeOf hb.typeIs ?_)
  first
    | refine PySem.W.KFB.if_so (by decide) ?_
    | rw [if_pos (by decide)]
    | simp only [beq_self_eq_true, Bool.true_or, if_true]
  unfold Builtin.List.listItems
  refine wpAny_bind (wpAny_seqItems e2 rfl (wpAny_pure ?_))
  refine wpAny_bind (wpAny_bind (wpAny_seqItems e rfl (wpAny_pure ?_)))
  refine wpAny_bind (wpAny_of_eq ((sliceIndices_raw lo hi none items.size (by simp)).trans (congrArg (pure : Int × Int × Int → Sem (Int × Int × Int)) hbd)) ?_)
  show wpAny _ _ (if ((1 : Int) == 1) = true then _ else _) _ _ s
  rw [if_pos (by decide)]
  refine wpAny_bind (wpAny_rule ?_)
  first
    | simp only [notLongL hsz, Bool.false_eq_true, if_false]
    | refine PySem.W.KFB.if_not (notLongL hsz) ?_
  first | refine wpAny_bind (wpAny_pure ?_) | skip
  show wpAny _ _ (updateSeq l (fun xs => xs.extract 0 ((a : Int)).toNat ++ new ++ xs.extract (max (a : Int) (c : Int)).toNat xs.size) >>= _) _ _ s
  rw [hmax, Int.toNat_natCast]
  refine wpAny_bind (wpAny_updateSeq (hz := Nat.le_trans (Nat.le_add_right _ _) hsz) (_hz' := hz') e rfl ?_)
  refine wpAny_bind (wpAny_letGo ?_)
  first
    | exact wpAny_bind (wpAny_pure (wpAny_pure ⟨.none, rfl, wpAny_pure h⟩))
    | exact wpAny_pure ⟨.none, rfl, wpAny_pure h⟩
end
section
variable {X : Cx} {pos p2 : Pos}
/-- a slice object, tracked -/
def slO (lo hi : Option Int) (sl : Addr) : HO := .ext fun h => ∃ vl vu, h.IsSliceOf sl vl vu .none ∧ IsPart vl lo ∧ IsPart vu hi
def tSlice (tl th : TO) : TE := fun σ H Q => tl σ H fun l H1 => th σ H1 fun u H2 => ∀ p, H2 p = none → Q (.ref p) (upd H2 p (slO l u p))
theorem pe_sliceO {lo hi : Option Expr} {tl th : TO} (hl : PO X lo tl) (hu : PO X hi th) : PE X (.Slice lo hi none p2) (tSlice tl th) := by
  intro pins s σ H Q I h
  refine wpAny_Slice (thn (hl pins s σ H _ I h) fun vl s2 ⟨l, H2, I2, pl, q2⟩ => thn (hu pins s2 σ H2 _ I2 q2) fun vu s3 ⟨u, H3, I3, pu, q3⟩ => ?_)
  rw [evalPart_none]
  refine wpAny_pure ?_
  refine ⟨.ref s3.heap.objs.size, _, I3.laid (t' := s3.toks) (o := slO l u s3.heap.objs.size) (fun b ob q => Heap.get?_push_of_some _ q) (Nat.le_refl _) ?_, rfl, q3 _ (I3.hok.fresh (Nat.le_refl _))⟩
  refine ⟨⟨vl, vu, Heap.IsSliceOf.new .., pl, pu⟩, ⟨_, Heap.get?_push_size _ rfl⟩, ?_⟩
  rintro h1 h2 ⟨a, b, ⟨o, e, c, d⟩, pa, pb⟩ k
  exact ⟨a, b, ⟨o, k o e, c, d⟩, pa, pb⟩
/-- xs[lo:hi] = ys -/
def rSetSl : TSet := fun o i v H Q => ∃ l b sl xs ys lo hi, o = .ref l ∧ i = .ref sl ∧ v = .ref b ∧ H l = some (.lst xs) ∧ H b = some (.lst ys) ∧ l ≠ b ∧ H sl = some (slO lo hi sl) ∧ HT.sIx xs.length 0 lo ≤ HT.sIx xs.length xs.length hi ∧ xs.length + ys.length ≤ sizeLine ∧
  Q (upd H l (.lst (xs.take (HT.sIx xs.length 0 lo) ++ ys ++ xs.drop (HT.sIx xs.length xs.length hi))))
theorem set_sl : PSet X rSetSl := by
  intro pins s σ H o i v ov iv u Q I ro ri rv h
  obtain ⟨l, b, sl, xs, ys, lo, hi, rfl, rfl, rfl, hH, hB, hne, hS, hac, hz, q⟩ := h
  cases ro; cases ri; cases rv
  obtain ⟨⟨vl, vu, hs, pl, pu⟩, _, _⟩ := (show ObjOk X.prog X.w H s.heap sl (slO lo hi sl) from I.hok sl _ hS)
  obtain ⟨z, its, n, r, hl, e⟩ := I.lstM hH
  obtain ⟨z2, its2, n2, r2, hl2, e2⟩ := I.lstM hB
  obtain ⟨b1, b2, b3⟩ := slice_bounds lo hi its.toArray.size
  have hbd : sliceBounds lo hi none its.toArray.size = (((HT.sIx xs.length 0 lo : Nat) : Int), ((HT.sIx xs.length xs.length hi : Nat) : Int), 1) := by
    have el : its.toArray.size = xs.length := by rw [List.size_toArray]; exact hl.symm
    rw [el] at b1 b2 b3 ⊢
    exact Prod.ext b1 (Prod.ext b2 b3)
  refine setItem_sliceG e e2 hne hs pl pu hbd hac (by rw [List.size_toArray, ← hl]; exact HT.sIx_le _ _ (Nat.le_refl _) hi) (by rw [List.size_toArray, List.size_toArray]; omega) ?_
  refine ⟨_, I.lset (its' := its.take (HT.sIx xs.length 0 lo) ++ its2 ++ its.drop (HT.sIx xs.length xs.length hi)) (t' := s.toks) hH e ?_ (Vals.append (Vals.append (r.take _) r2) (r.drop _)) ?_, q⟩
  · exact splice_eq its its2 _ _
  · rw [List.length_append, List.length_append, List.length_take, List.length_drop]
    omega

/-! ### range(a, b, c) that is empty -/
theorem turn_none {P : Program} {w : World} {K : PySem.W.Frag} {tg : Expr} (it : Addr) (lo c : Int) : Turn P w K tg (Itr lo 0) [it] it (fun i h => i = 0 ∧ IsRangeIter h it lo 0 c) where
  mem := by simp
  obj := fun i h st b hb => by
    have e : b = it := by simpa using hb
    subst e
    exact ⟨_, st.2, fun v z => by
      have z' : Data.fields _ = Data.cell v := z
      cases z'⟩
  keep := fun i h h' st k => ⟨st.1, k it (by simp) _ st.2⟩
  item := by
    intro X hP hw hK hc i pins s σ H E I hf st hg
    exact absurd hg (Nat.not_lt_zero i)
  done := by
    intro X hP hw hK hc i pins s σ H E I hf st hg
    subst hP hw hK
    obtain ⟨f0, f1, f2, f3, f4, f5⟩ := hf it (by simp)
    exact wpAny_pyNext_range_end (I.ok.hd hc) st.2 (by omega) fun h' eb => ⟨rfl, I.turned (t' := s.toks) (fun b o hb e => eb b o hb e) f0 f1 f3 f4 f5⟩
  self := fun _ _ _ _ _ st h => wpAny_pyIter_rangeiter st.2 h
def iRng3e (ta : TA) : TI := fun σ H R => ta σ H fun vs H1 => ∃ i j k : Int, vs = [.int i, .int j, .int k] ∧ (0 ≤ i ∧ i < 2 ^ 30 ∧ 0 ≤ j ∧ j ≤ i ∧ 0 < k ∧ k < 2 ^ 30) ∧ R (Itr i 0) H1
theorem range_none {i j k : Int} (h0 : j ≤ i) (hk : 0 < k) : Builtin.Range.rangeSize i j k = 0 := by
  unfold Builtin.Range.rangeSize
  first
    | (split <;> (try split) <;> (try omega) <;> (try (exfalso; omega)) <;> (apply Int.ediv_eq_zero_of_lt <;> omega))
    | (simp only [hk, if_true]; split <;> omega)
theorem fits_of {x : Int} (h : -(2 ^ 62) ≤ x) (h2 : x ≤ 2 ^ 62) : Builtin.Range.rangeFitsLong x = true := by
  unfold Builtin.Range.rangeFitsLong
  rw [Bool.and_eq_true]
  exact ⟨decide_eq_true (by omega), decide_eq_true (by omega)⟩
theorem pi_range3e {tg a b c : Expr} {ta : TA} {p pos : Pos} (hm : X.mg "range" = none) (ha : PA X [a, b, c] ta) (hg : Gl X "range" := by rfl) (hs : starEach [a, b, c] X.env = (false, eval a X.env) :: starEach [b, c] X.env := by rfl)
    (hpl : (backTo pos (starEach [b, c] X.env)).any (·.1) = false := by rfl) : PI X tg (.Call (.Name "range" p) [a, b, c] [] pos) (iRng3e ta) := by
  intro pins s σ H R I h
  refine Call_ (ld_blt I hg hm boot_range (PyProof.Rows.callWith_type1 (thn (ha pos pins s σ H _ I h) fun us s1 ⟨vs, H1, I1, r1, q1⟩ => ?_) hs hpl))
  obtain ⟨i, j, k, e, ⟨i0, i1, j0, ji, k0, k1⟩, q⟩ := q1
  subst e
  cases r1 with
  | cons r rr =>
    cases rr with
    | cons r' rr =>
      cases rr with
      | cons r'' rr =>
        cases rr
        obtain ⟨t, rfl⟩ := r
        obtain ⟨t', rfl⟩ := r'
        obtain ⟨t'', rfl⟩ := r''
        have hz := range_none (i := i) (j := j) (k := k) ji k0
        refine call_range_3 (by omega) ?_ (.inl (PyProof.noPylong_small (by omega)))
        refine wpAny_pyIter_range (IsRange.new ..) ?_ ?_
        · unfold Builtin.Range.small
          rw [hz, fits_of (by omega) (by omega), fits_of (by omega) (by omega), fits_of (by omega) (by omega), fits_of (by omega) (by omega)]
          rfl
        · have I2 : Inv X pins σ H1 { s1 with heap := s1.heap.push { cls := .type "range", data := .fields #[.int i t, .int j t', .int k t''] } } := I1.kept (t' := s1.toks) fun b o e => Heap.get?_push_of_some _ e
          refine ⟨_, _, _, _, H1, rfl, I2.kept (t' := s1.toks) fun b o e => Heap.get?_push_of_some _ e, turn_none (s1.heap.push { cls := .type "range", data := .fields #[.int i t, .int j t', .int k t''] }).objs.size i k, ⟨rfl, ?_⟩, fun b hb => ?_, q⟩
          · rw [hz]
            exact Heap.get?_push_size _ rfl
          · have e : b = (s1.heap.push { cls := .type "range", data := .fields #[.int i t, .int j t', .int k t''] }).objs.size := by simpa using hb
            subst e
            exact I2.fpOk (Nat.le_refl _) (I2.hok.fresh (Nat.le_refl _))

/-! ### the items of a dict of the file's top -/
def TopItems (w : World) (K : PySem.W.Frag) (a : Addr) (kvs : List (Str × V)) : Prop := ∃ es n, K.lookup a = some ⟨.type "dict", none, .dict es n, #[]⟩ ∧ PySem.W.KeysLit w.params es.toList ∧
  Paired (fun (kv : Str × V) (e : DictEntry) => (∃ t, e.key = .str kv.1 t) ∧ RelV kv.2 e.val) kvs es.toList ∧ (kvs.map (·.1)).Nodup ∧ (a == sysModules) = false
theorem pairs_of {P : Program} {w : World} : ∀ {kvs : List (Str × V)} {es : List DictEntry}, Paired (fun (kv : Str × V) (e : DictEntry) => (∃ t, e.key = .str kv.1 t) ∧ RelV kv.2 e.val) kvs es →
    ∃ vs : List (Str × Value), Pairs (strKind P w) es vs ∧ vs.map (·.1) = kvs.map (·.1) ∧ ∀ (i : Nat) (k : Str) (v : Value), vs[i]? = some (k, v) → ∃ x, kvs[i]? = some (k, x) ∧ RelV x v
  | _, _, .nil => ⟨[], .nil, rfl, fun i k v e => by cases e⟩
  | kv :: kvs, e :: es, .cons ⟨⟨t, h1⟩, h2⟩ r => by
    obtain ⟨vs, p, q, g⟩ := pairs_of (P := P) (w := w) r
    refine ⟨(kv.1, e.val) :: vs, .cons (by rw [h1]; exact strKind_is P w kv.1 t) rfl p, by rw [List.map_cons, List.map_cons, q], fun i k v hi => ?_⟩
    match i, hi with
    | 0, hi => cases hi; exact ⟨kv.2, rfl, h2⟩
    | i + 1, hi => exact g i k v (by simpa using hi)
theorem Inv.topItems {pins : List (Addr × Obj)} {σ : St} {H : Hp} {s : Shared} (I : Inv X pins σ H s) {a : Addr} {kvs : List (Str × V)} (T : TopItems X.w X.K a kvs) :
    ∃ (vs : List (Str × Value)) (ep : Nat), s.heap.DictAt (strKind X.prog X.w) a vs ep ∧ vs.length = kvs.length ∧ ∀ (i : Nat) (k : Str) (v : Value), vs[i]? = some (k, v) → ∃ x, kvs[i]? = some (k, x) ∧ RelV x v := by
  obtain ⟨es, n, hl, hk, hp, hnd, hs⟩ := T
  obtain ⟨vs, p, q, g⟩ := pairs_of (P := X.prog) (w := X.w) hp
  refine ⟨vs, n, ⟨_, es, I.kIn _ _ hl, ⟨rfl, rfl, rfl⟩, rfl, fun e he => ?_, p, by rw [q]; exact hnd⟩, by have := congrArg List.length q; simpa using this, g⟩
  obtain ⟨x, t, e1, e2⟩ := hk.all e (Array.mem_toList_iff.mpr he)
  exact ⟨x, by rw [e1]; exact strKind_is _ _ x t, e2⟩
/-- at each turn a new pair -/
def Iti (kvs : List (Str × V)) : It :=
  ⟨fun i _ => i < kvs.length, fun i H v H' => ∃ T k x, v = .ref T ∧ H T = none ∧ H' = upd H T (.tup [.str k, x]) ∧ kvs[i]? = some (k, x), fun i _ => kvs.length ≤ i⟩
theorem turn_items {P : Program} {w : World} {K : PySem.W.Frag} {es : List Expr} {kk : Nat} {tp : Pos} (d it : Addr) (kvs : List (Str × V)) (T : TopItems w K d kvs) (ep : Nat)
    (hep : ∀ es n, K.lookup d = some ⟨.type "dict", none, .dict es n, #[]⟩ → n = ep) :
    Turn P w K (.Tuple es kk tp) (Iti kvs) [it] it (fun i h => ∃ a b, IsItemIter h it d i kvs.length ep a b) where
  mem := by simp
  obj := fun i h ⟨a, b, st⟩ c hc => by
    have e : c = it := by simpa using hc
    subst e
    exact ⟨_, st, fun v z => by cases z⟩
  keep := fun i h h' ⟨a, b, st⟩ k => ⟨a, b, k it (by simp) _ st⟩
  item := by
    rintro X hP hw hK hc i pins s σ H E I hf ⟨a, b, st⟩ hg
    subst hP hw hK
    obtain ⟨vs, ep', hm, hlen, g⟩ := I.topItems T
    have eep : ep' = ep := by
      obtain ⟨es', n, hl, _⟩ := T
      obtain ⟨o, es2, e1, _, e2, _⟩ := hm
      have e3 := I.kIn _ _ hl
      rw [e1] at e3
      cases e3
      have e4 : Data.dict es' n = Data.dict es2 ep' := e2
      cases e4
      exact hep _ _ hl
    subst eep
    obtain ⟨⟨k, v⟩, hx⟩ : ∃ p, vs[i]? = some p := ⟨vs[i]'(by rw [hlen]; exact hg), List.getElem?_eq_getElem _⟩
    obtain ⟨x, hkx, rx⟩ := g i k v hx
    obtain ⟨f0, f1, f2, f3, f4, f5⟩ := hf it (by simp)
    rw [← hlen] at st
    refine wpAny_pyNext_items_item st hm hx fun key h' hkey st' new sz kp => ⟨_, rfl, ?_⟩
    refine wpAny_letOwnedTupleGo_items st' fun h2 st2 sb => ?_
    have nT : H s.heap.objs.size = none := I.hok.fresh (Nat.le_refl _)
    have il : s.heap.objs.size ≠ it := Nat.ne_of_gt (Heap.lt_size st)
    have kp2 : ∀ c o, c ≠ it → s.heap.get? c = some o → h2.get? c = some o := fun c o n e => sb.extBut c o n (kp c o n e)
    have new2 := sb.extBut _ _ il new
    obtain ⟨t, ek⟩ : ∃ t, key = Value.str k t := by
      have hkey' : Value.isStrOf k key = true := hkey
      exact Value.isStrOf_shape hkey'
    subst ek
    have I1 : Inv X pins σ H { s with heap := h2 } := I.turned (t' := s.toks) kp2 f0 f1 f3 f4 f5
    have I2 : Inv X pins σ (upd H s.heap.objs.size (.tup [.str k, x])) { s with heap := h2 } := by
      have ko : ObjOk X.prog X.w (upd H s.heap.objs.size (.tup [.str k, x])) h2 s.heap.objs.size (.tup [.str k, x]) := ⟨by show 2 ≤ sizeLine; rw [sizeLine_eq]; decide, [.str k t, v], .cons ⟨t, rfl⟩ (.cons rx .nil), ⟨_, new2, rfl, 0, rfl⟩⟩
      refine I.step (h' := h2) (g' := s.gens) (d' := s.drawn) (t' := s.toks) (ch := [it]) (fun c hc => ?_) (fun c o _ _ hc e _ => kp2 c o (by simpa using hc) e) (fun c o _ _ hc e _ => ⟨o.slots, kp2 c o (by simpa using hc) e⟩) (fun c o hc e n => ?_) (fun c o hc e => ⟨o, kp2 c o (by simpa using hc) e⟩) (fun c ys e => ?_) (fun c o u e => ?_) (fun c ps e => ⟨#[], ?_⟩) (fun m hm' => ?_) (fun c o e => ?_) I.bare
      · have e : c = it := by simpa using hc
        subst e
        exact ⟨f3, f1, f4, f5⟩
      · rw [upd_ne (Nat.ne_of_lt (Heap.lt_size e))]; exact n
      · rw [upd_ne (ne_of_none e nT)]; exact e
      · rw [upd_ne (ne_of_none e nT)]; exact e
      · rw [upd_ne (ne_of_none e nT), e]; simp
      · obtain ⟨o, es, ep, ho, r⟩ := hm'
        exact ⟨o, es, ep, kp2 _ o (Ne.symm f1) ho, r⟩
      · by_cases hb : c = s.heap.objs.size
        · subst hb
          rw [upd_same] at e
          cases e
          exact ko
        · rw [upd_ne hb] at e
          refine (I1.hok c o e).stay (fun _ _ _ r => r) (fun c' r => by rw [upd_ne (ne_of_none r nT)]; exact r) fun c' xs r => by rw [upd_ne (ne_of_none r nT)]; exact r
    rw [hlen] at st2
    exact ⟨.ref s.heap.objs.size, _, I2, rfl, ⟨_, k, x, rfl, nT, rfl, hkx⟩, ⟨_, _, st2⟩, fun c hc => by
      have e : c = it := by simpa using hc
      subst e
      rw [upd_ne (Ne.symm il)]
      exact f0⟩
  done := by
    rintro X hP hw hK hc i pins s σ H E I hf ⟨a, b, st⟩ hg
    subst hP hw hK
    obtain ⟨vs, ep', hm, hlen, g⟩ := I.topItems T
    have eep : ep' = ep := by
      obtain ⟨es', n, hl, _⟩ := T
      obtain ⟨o, es2, e1, _, e2, _⟩ := hm
      have e3 := I.kIn _ _ hl
      rw [e1] at e3
      cases e3
      have e4 : Data.dict es' n = Data.dict es2 ep' := e2
      cases e4
      exact hep _ _ hl
    subst eep
    obtain ⟨f0, f1, f2, f3, f4, f5⟩ := hf it (by simp)
    rw [← hlen] at st
    have hx : vs[i]? = none := List.getElem?_eq_none (by rw [hlen]; exact hg)
    exact wpAny_pyNext_items_end (I.ok.hd hc) st hm hx fun h' eb => ⟨rfl, I.turned (t' := s.toks) (fun c o n e => eb c o n e) f0 f1 f3 f4 f5⟩
  self := fun A i s Q E ⟨a, b, st⟩ h => by
    have hT : s.TypeIs (.ref it) "dict_itemiterator" := ⟨_, st, rfl⟩
    refine wpAny_pyIter_slot hT F.slot_dict_itemiterator_iter (wpAny_call_entry F.slot_dict_itemiterator_iter hT PySem.W.kcp_entry ?_ (F.args_dict_itemiterator_iter_1 _))
    show wpAny _ _ (ret (.ref it)) _ _ s
    exact wpAny_pure ⟨_, rfl, "dict_itemiterator", _, hT, F.slot_dict_itemiterator_next.lookup, h⟩
def iItems (kvs : List (Str × V)) : TI := fun _ H R => R (Iti kvs) H
theorem pi_items {d : Addr} {kvs : List (Str × V)} {x : Str} {p apos cpos : Pos} {es : List Expr} {kk : Nat} {tp : Pos} (hm : X.mg x = some (.ref d)) (T : TopItems X.w X.K d kvs) (hg : Gl X x := by rfl) (hd : (x == ("__debug__" : Str)) = false := by decide)
    (hbase : attributeBase (.Name x p) "items" X.env (eval (.Name x p) X.env) = eval (.Name x p) X.env := by rfl) (hline : (apos.endLine == cpos.line) = true := by rfl) :
    PI X (.Tuple es kk tp) (.Call (.Attribute (.Name x p) "items" apos) [] [] cpos) (iItems kvs) := by
  intro pins s σ H R I h
  refine wpAny_Call_method0_late hbase hline (thn (pe_glob (v := .ref d) hg hm rfl hd pins s σ H (fun v H' => v = .ref d ∧ H' = H) I ⟨rfl, rfl⟩) fun v s1 ⟨y, H1, I1, r1, ey, eH⟩ => ?_)
  subst ey eH
  cases r1
  obtain ⟨vs, ep, hmm, hlen, _⟩ := I1.topItems T
  obtain ⟨es0, n, hl, hk, hpz, hnd, hsys⟩ := id T
  obtain ⟨o, es1, e1, ex, e2, e3⟩ := id hmm
  have hT : s1.TypeIs (.ref d) "dict" := ⟨o, e1, ex.1⟩
  refine ⟨"dict", "dict.items", F.plainAttrs_dict, F.slot_dict_items, F.type_dict_items, hT, fun a e => by cases e; exact ⟨o, e1, ex.2.1⟩, ?_⟩
  refine Calls.callWith_builtin rfl (PySem.evalArgs_none ?_)
  refine call_meetsIn F.slot_dict_items hT F.entry_dict_items (F.args_dict_items_1 _) (meets_dict_items (strKind X.prog X.w) d hsys) ⟨⟨vs, o, es1, ep, e1, ex, e2, e3⟩, ?_⟩
  have I2 : Inv X pins σ H1 { s1 with heap := s1.heap.push { cls := .type "dict_items", data := .fields #[.ref d] } } := I1.kept (t' := s1.toks) fun b o e => Heap.get?_push_of_some _ e
  have hm2 : ({ s1 with heap := s1.heap.push { cls := .type "dict_items", data := .fields #[.ref d] } } : Shared).heap.DictAt (strKind X.prog X.w) d vs ep := ⟨o, es1, Heap.get?_push_of_some _ e1, ex, e2, e3⟩
  refine wpAny_pyIter_items (knd := strKind X.prog X.w) (d := d) (kvs := vs) (ep := ep) ⟨_, Heap.get?_push_size _ rfl, rfl, rfl⟩ hm2 ?_
  have hep : ∀ es n, X.K.lookup d = some ⟨.type "dict", none, .dict es n, #[]⟩ → n = ep := fun es' n' hl' => by
    have e4 := I1.kIn _ _ hl'
    rw [e1] at e4
    cases e4
    have e5 : Data.dict es' n' = Data.dict es1 ep := e2
    cases e5
    rfl
  refine ⟨_, _, _, _, H1, rfl, I2.kept (t' := s1.toks) fun b o e => Heap.get?_push_of_some _ e, turn_items d _ kvs T ep hep, ⟨.none, .none, ?_⟩, fun b hb => ?_, h⟩
  · rw [← hlen]
    exact Heap.get?_push_size _ rfl
  · have e : b = (s1.heap.push { cls := .type "dict_items", data := .fields #[.ref d] }).objs.size := by simpa using hb
    subst e
    exact I2.fpOk (Nat.le_refl _) (I2.hok.fresh (Nat.le_refl _))
theorem for_items {kvs : List (Str × V)} {g : TG} {tb : TS} {D : Ends} {σ : St} {H : Hp} (Pv : Nat → St → Hp → Prop) (h0 : Pv 0 σ H)
    (hs : ∀ i T k x σ H, kvs[i]? = some (k, x) → Pv i σ H → H T = none → g (.ref T) σ (upd H T (.tup [.str k, x])) fun σ2 H2 => tb { D with nx := Pv (i + 1), ct := Pv (i + 1), bk := D.nx } σ2 H2) (hd : ∀ σ H, Pv kvs.length σ H → D.nx σ H) :
    ∃ W : Nat → Nat → St → Hp → Prop, (∃ m, W 0 m σ H) ∧ ∀ i m σ H, W i m σ H →
      ((Iti kvs).stop i H ∧ D.nx σ H) ∨ ((Iti kvs).go i H ∧ ∃ N : St → Hp → Prop, (∀ σ' H', N σ' H' → ∃ m', m' < m ∧ W (i + 1) m' σ' H') ∧ ∀ x H', (Iti kvs).yld i H x H' → g x σ H' fun σ2 H2 => tb { D with nx := N, ct := N, bk := D.nx } σ2 H2) := by
  refine ⟨fun i m σ H => m = kvs.length - i ∧ i ≤ kvs.length ∧ Pv i σ H, ⟨kvs.length, by simp, Nat.zero_le _, h0⟩, ?_⟩
  rintro i m σ H ⟨rfl, hi, p⟩
  by_cases hlt : i < kvs.length
  · refine .inr ⟨hlt, Pv (i + 1), fun σ' H' p' => ⟨kvs.length - (i + 1), by omega, rfl, hlt, p'⟩, fun v H' y => ?_⟩
    obtain ⟨T, k, x, rfl, hT, rfl, hx⟩ := y
    exact hs i T k x σ H hx p hT
  · have e : i = kvs.length := by omega
    subst e
    exact .inl ⟨Nat.le_refl _, hd σ H p⟩
end
end L2

set_option Elab.async false
set_option linter.all false
set_option maxRecDepth 100000
set_option maxHeartbeats 4000000
namespace L2
open PySem PySem.Spec PyProof.Rows

/-! ### an exception under way -/
/-- the exception's object -/
def XAt (h : Heap) (e : Addr) (cls : Value) (dx : Option Addr) (tb : Value) : Prop := ∃ oe vs, h.get? e = some oe ∧ oe.cls = cls ∧ oe.dict = dx ∧ oe.data = .fields vs ∧ vs[1]? = some tb
/-- its newest trace entry, with the mark of the frame -/
def TbAt (h : Heap) (T : Addr) (fl : Value) : Prop := ∃ oT ts, h.get? T = some oT ∧ oT.data = .fields ts ∧ ts[3]? = some fl
section
variable {M : Model} {A : Around} {E : Value → Shared → Prop} {s : Shared}
theorem frame_not_rec {h base : Heap} {l : List Env} (hl : h.FunFrames base l) {b : Addr} (hb : b ∈ frs l) {o : Obj} (ho : h.get? b = some o) (vs : Array Value) : o.data ≠ .fields vs := by
  obtain ⟨_, o2, h2, hn⟩ := hl.mem hb
  rw [ho] at h2
  cases h2
  exact hn vs
theorem entry_new {base : Heap} {env : Env} {outer : List Env} {L e : Addr} {oe : Obj} {vs : Array Value} {hd : Value} {hn : Bool} {Q : Unit → Shared → Prop} (hfr : A.frames = some (env :: outer)) (hl : s.heap.FunFrames base (env :: outer)) (hf : env.frame = some L)
    (he : s.heap.get? e = some oe) (hdat : oe.data = .fields vs) (hsz : 1 < vs.size)
    (h : ∀ h' T, (∀ b o, s.heap.get? b = some o → b ∉ frs (env :: outer) → b ≠ e → h'.get? b = some o) → (∀ b o, s.heap.get? b = some o → b ≠ e → ∃ sl, h'.get? b = some { o with slots := sl }) → s.heap.objs.size ≤ T → T ≠ e → XAt h' e oe.cls oe.dict (.ref T) → TbAt h' T (rawInt L) →
      Q () { s with heap := h' }) :
    wpAny M A (frameOf env >>= fun a => entryPlaceOf L hn >>= fun pl => EntryCells.newEntry hd a .none (rawInt L) .none pl >>= fun b => setField (.ref e) 1 b) Q E s := by
  have ne : e ∉ frs (env :: outer) := fun z => frame_not_rec hl z he vs hdat
  refine wpAny_bind (wpAny_frameOf_fun hfr hl hf fun h1 so => wpAny_bind (wpAny_entryPlaceOf fun pl isP => ?_))
  unfold EntryCells.newEntry newFields
  refine wpAny_bind (wpAny_newObj_type ?_ (isP.sizeOk5 _ _ _ _ _))
  generalize hts : ([hd, .ref L, .none, rawInt L, .none] ++ (if pl.isEmpty then List.replicate 6 Value.none else pl)).toArray = ts
  have h3 : ts[3]? = some (rawInt L) := by rw [← hts]; simp
  have ge : h1.get? e = some oe := (so.2.1 e ne).trans he
  have lt : e < h1.objs.size := Heap.lt_size ge
  refine wpAny_setField (Heap.get?_push_of_some _ ge) hdat hsz ?_
  refine h _ h1.objs.size (fun b o hb nb nbe => ?_) (fun b o hb nbe => ?_) (Nat.le_of_eq so.1.symm) (Nat.ne_of_gt lt) ?_ ?_
  · rw [Heap.get?_update_other _ _ (Ne.symm nbe)]
    exact Heap.get?_push_of_some _ ((so.2.1 b nb).trans hb)
  · obtain ⟨sl, q⟩ := so.2.2 b o hb
    exact ⟨sl, by rw [Heap.get?_update_other _ _ (Ne.symm nbe)]; exact Heap.get?_push_of_some _ q⟩
  · have dm := Obj.data_mapFields hdat (·.setIfInBounds 1 (Value.ref h1.objs.size))
    refine ⟨_, _, Heap.get?_update_self _ (Heap.get?_push_of_some _ ge) (Obj.isFreed_of_fields dm), Obj.cls_mapFields _ _, ?_, dm, by simp [hsz]⟩
    obtain ⟨c, d, dt, sl⟩ := oe
    cases dt <;> first | rfl | cases hdat
  · exact ⟨_, ts, by rw [Heap.get?_update_other _ _ (Nat.ne_of_lt lt)]; exact Heap.get?_push_size _ rfl, rfl, h3⟩
end

/-- what may have changed: frames' slots, the records at ch -/
structure Chg (fs ch : List Addr) (h h' : Heap) : Prop where
  keep : ∀ b o, h.get? b = some o → b ∉ fs → b ∉ ch → h'.get? b = some o
  slot : ∀ b o, h.get? b = some o → b ∉ ch → ∃ sl, h'.get? b = some { o with slots := sl }
/-- new since the entry, and nobody's else -/
structure Own (X : Cx) (H : Hp) (b : Addr) : Prop where
  free : H b = none
  new : X.s₀.heap.objs.size ≤ b
  loc : b ≠ X.env.locals
  cel : ∀ x c, X.env.cells.lookup x = some c → c ≠ b
  pin : ∀ p ∈ X.pn, p.1 ≠ b
section
variable {X : Cx} {σ : St} {H : Hp} {s : Shared}
theorem Inv.chg {ch : List Addr} {h' : Heap} (I : Inv X [] σ H s) (c : Chg (frs X.stack) ch s.heap h') (hc : ∀ b ∈ ch, Own X H b) : Inv X [] σ H { s with heap := h' } := by
  refine I.call (g' := s.gens) (t' := s.toks) (d' := s.drawn) (ch := ch) (H' := H) ⟨fun b o e _ nf nc => c.keep b o e nf nc, fun b o e _ _ nc => c.slot b o e nc, fun _ _ _ n _ => n, fun b o e nc => let ⟨sl, q⟩ := c.slot b o e nc; ⟨_, q⟩, fun _ _ e => e, fun _ _ _ e => e, fun b ps e => ⟨#[], by rw [e]; simp⟩⟩ (fun b u e => ?_) I.bare fun b hb => ⟨.inr (hc b hb).new, (hc b hb).loc, (hc b hb).cel, fun p hp => (hc b hb).pin p (by simpa using hp)⟩
  refine (I.hok b u e).stay (fun c' v hh q => c.keep c' v q (fun z => ?_) fun z => ?_) (fun _ q => q) fun _ _ q => q
  · have := I.stkFree c' z
    rcases hh with rfl | hh
    · rw [this] at e; cases e
    · rw [this] at hh; cases hh
  · have := (hc c' z).free
    rcases hh with rfl | hh
    · rw [this] at e; cases e
    · rw [this] at hh; cases hh
theorem Inv.own_new (I : Inv X [] σ H s) {b : Addr} (hb : s.heap.objs.size ≤ b) : Own X H b where
  free := I.hok.fresh hb
  new := Nat.le_trans I.sz hb
  loc := Nat.ne_of_gt (Nat.lt_of_lt_of_le I.lt hb)
  cel := fun x c e z => by
    obtain ⟨v, q⟩ := I.cell x c e
    exact absurd (Nat.lt_of_lt_of_le q.lt (by rw [z]; exact hb)) (Nat.lt_irrefl _)
  pin := fun p hp z => absurd (Nat.lt_of_lt_of_le (Heap.lt_size (I.pin p (by simpa using hp)).1) (by rw [z]; exact hb)) (Nat.lt_irrefl _)
end
abbrev XS := Value → Option Addr → St → Hp → Prop
/-- an exception in this body; mk: it bears this frame's mark (tb: it has a trace) -/
def FlOk (mk : Option Bool) (fl : Value) (L : Addr) : Prop := match mk with
  | none => fl = .none ∨ fl = rawInt L
  | some true => fl = rawInt L
  | some false => fl = .none
theorem FlOk.any {mk : Option Bool} {fl : Value} {L : Addr} (h : FlOk mk fl L) : fl = .none ∨ fl = rawInt L := by
  match mk, h with
  | none, h => exact h
  | some true, h => exact .inr h
  | some false, h => exact .inl h
def XBe (X : Cx) (E : XS) (tb : Bool) (mk : Option Bool) (ev : Value) (s : Shared) : Prop := ∃ e cls dx σ H, ev = .ref e ∧ Inv X [] σ H s ∧ Own X H e ∧
  ((tb = false ∧ XAt s.heap e cls dx .none) ∨ ∃ T fl, XAt s.heap e cls dx (.ref T) ∧ Own X H T ∧ T ≠ e ∧ TbAt s.heap T fl ∧ FlOk mk fl X.env.locals) ∧ E cls dx σ H
abbrev XIn (X : Cx) (E : XS) : Value → Shared → Prop := XBe X E false none
theorem XBe.weak {X : Cx} {E : XS} {tb : Bool} {mk : Option Bool} {ev : Value} {s : Shared} (h : XBe X E tb mk ev s) : XIn X E ev s := by
  obtain ⟨e, cls, dx, σ, H, h1, h2, h3, h4, h5⟩ := h
  refine ⟨e, cls, dx, σ, H, h1, h2, h3, ?_, h5⟩
  rcases h4 with ⟨_, h4⟩ | ⟨T, fl, a, b, c, d, f⟩
  · exact .inl ⟨rfl, h4⟩
  · exact .inr ⟨T, fl, a, b, c, d, f.any⟩
section
variable {X : Cx} {E : XS} {M : Model} {A : Around} {F : Value → Shared → Prop} {s : Shared} {ev : Value} {tb : Bool} {mk : Option Bool}
theorem x_note {Q : Unit → Shared → Prop} (hA : A.frames = some X.stack) (hst : X.stack = X.env :: X.outer) (hf : X.env.frame = some X.env.locals) (h : XBe X E tb mk ev s) (hQ : ∀ s', XBe X E true (some true) ev s' → Q () s') : wpAny M A (noteFrame ev X.env) Q F s := by
  obtain ⟨e, cls, dx, σ, H, rfl, I, oe, ht, hE⟩ := h
  have fin : ∀ {s1 : Shared} {hd : Value} {ob : Obj} {vs : Array Value}, Inv X [] σ H s1 → s1.heap.get? e = some ob → ob.cls = cls → ob.dict = dx → ob.data = .fields vs → 1 < vs.size →
      wpAny M A (frameOf X.env >>= fun a => entryPlaceOf X.env.locals (hd != .none) >>= fun pl => EntryCells.newEntry hd a .none (rawInt X.env.locals) .none pl >>= fun b => setField (.ref e) 1 b) Q F s1 := by
    intro s1 hd ob vs I1 ge hcls hdx hdat hsz
    have fr := I1.stack
    rw [hst] at fr
    refine entry_new (hA.trans (by rw [hst])) fr hf ge hdat hsz fun h' T k1 k2 hT ne xa ta => ?_
    rw [hcls, hdx] at xa
    have J := I1.chg (ch := [e]) (h' := h') ⟨fun b o q nf nc => k1 b o q (by rw [← hst]; exact nf) (by simpa using nc), fun b o q nc => k2 b o q (by simpa using nc)⟩ fun b hb => by
      have : b = e := by simpa using hb
      subst this; exact oe
    exact hQ _ ⟨e, cls, dx, σ, H, rfl, J, oe, .inr ⟨T, _, xa, I1.own_new hT, ne, ta, rfl⟩, hE⟩
  unfold noteFrame
  simp only [hf]
  rcases ht with ⟨_, ob, vs, ge, hcls, hdx, hdat, h1⟩ | ⟨T, fl, ⟨ob, vs, ge, hcls, hdx, hdat, h1⟩, oT, ne, ⟨ot, ts, gT, dT, h3⟩, hfl⟩
  · refine wpAny_bind (wpAny_field ge hdat h1 ?_)
    rw [if_neg (by decide)]
    exact fin I ge hcls hdx hdat (Array.getElem?_eq_some_iff.mp h1).1
  · refine wpAny_bind (wpAny_field ge hdat h1 ?_)
    rw [if_pos (show (Value.ref T != Value.none) = true by simp)]
    refine wpAny_bind (wpAny_field gT dT h3 ?_)
    rcases hfl.any with rfl | rfl
    · rw [if_neg (show ¬ ((Value.none == rawInt X.env.locals) = true) by simp [rawInt])]
      refine wpAny_bind (wpAny_setField gT dT (Array.getElem?_eq_some_iff.mp h3).1 ?_)
      have J := I.chg (ch := [T]) (h' := s.heap.update T (Obj.mapFields (·.setIfInBounds 3 Value.none))) ⟨fun b o q _ nc => (Heap.get?_update_other _ _ (fun z => nc (by simp [z]))).trans q, fun b o q nc => ⟨o.slots, (Heap.get?_update_other _ _ (fun z => nc (by simp [z]))).trans q⟩⟩ fun b hb => by
        have : b = T := by simpa using hb
        subst this; exact oT
      exact fin J ((Heap.get?_update_other _ _ ne).trans ge) hcls hdx hdat (Array.getElem?_eq_some_iff.mp h1).1
    · rw [if_pos (show (rawInt X.env.locals == rawInt X.env.locals) = true by first | exact beq_self_eq_true _ | simp)]
      exact wpAny_pure (hQ s ⟨e, cls, dx, σ, H, rfl, I, oe, .inr ⟨T, _, ⟨ob, vs, ge, hcls, hdx, hdat, h1⟩, oT, ne, ⟨ot, ts, gT, dT, h3⟩, rfl⟩, hE⟩)
/-- the mark is set or taken away -/
theorem x_flight {Q : Unit → Shared → Prop} {fr : Option Addr} (hfr : fr = none ∨ fr = some X.env.locals) (h : XBe X E true mk ev s) (hQ : ∀ s', XBe X E true (some fr.isSome) ev s' → Q () s') : wpAny M A (setFlight ev fr) Q F s := by
  obtain ⟨e, cls, dx, σ, H, rfl, I, oe, ht, hE⟩ := h
  rcases ht with ⟨z, _⟩ | ⟨T, fl, ⟨ob, vs, ge, hcls, hdx, hdat, h1⟩, oT, ne, ⟨ot, ts, gT, dT, h3⟩, hfl⟩
  · cases z
  · have h3s := (Array.getElem?_eq_some_iff.mp h3).1
    unfold setFlight
    refine wpAny_bind (wpAny_field ge hdat h1 ?_)
    rw [if_pos (show (Value.ref T != Value.none) = true by simp)]
    refine wpAny_setField gT dT h3s (hQ _ ?_)
    generalize hx : (fr.elim Value.none fun f => rawInt f) = x
    have J := I.chg (ch := [T]) (h' := s.heap.update T (Obj.mapFields (·.setIfInBounds 3 x))) ⟨fun b o q _ nc => (Heap.get?_update_other _ _ (fun z => nc (by simp [z]))).trans q, fun b o q nc => ⟨o.slots, (Heap.get?_update_other _ _ (fun z => nc (by simp [z]))).trans q⟩⟩ fun b hb => by
      have : b = T := by simpa using hb
      subst this; exact oT
    have dm := Obj.data_mapFields dT (·.setIfInBounds 3 x)
    refine ⟨e, cls, dx, σ, H, rfl, J, oe, .inr ⟨T, x, ⟨ob, vs, (Heap.get?_update_other _ _ ne).trans ge, hcls, hdx, hdat, h1⟩, oT, ne, ⟨_, _, Heap.get?_update_self _ gT (Obj.isFreed_of_fields dm), dm, by simp [h3s]⟩, ?_⟩, hE⟩
    rcases hfr with rfl | rfl
    · exact hx.symm
    · exact hx.symm
theorem x_back {Q : Unit → Shared → Prop} (hf : X.env.frame = some X.env.locals) (h : XBe X E true mk ev s) (hQ : ∀ s', XIn X E ev s' → Q () s') :
    wpAny M A (do if (← field ev 1) == .none then unsupported "frame.own-activation:exception-without-traceback"
                  setFlight ev X.env.frame) Q F s := by
  obtain ⟨e, cls, dx, σ, H, rfl, I, oe, ht, hE⟩ := id h
  rcases ht with ⟨z, _⟩ | ⟨T, fl, ⟨ob, vs, ge, hcls, hdx, hdat, h1⟩, r⟩
  · cases z
  · refine wpAny_bind (wpAny_field ge hdat h1 ?_)
    rw [if_neg (show ¬ ((Value.ref T == Value.none) = true) by simp)]
    first
      | exact x_flight (fr := X.env.frame) (.inr hf) h fun s' q => hQ s' q.weak
      | exact wpAny_bind (wpAny_pure (x_flight (fr := X.env.frame) (.inr hf) h fun s' q => hQ s' q.weak))
/-- own loops let it through -/
theorem XBe.frames (h : XBe X E tb mk ev s) : X.A.frames = some X.stack := by
  obtain ⟨_, _, _, _, _, _, I, _⟩ := h
  exact I.ok.frames
theorem x_passes (hst : X.stack = X.env :: X.outer) (hf : X.env.frame = some X.env.locals) : PassesOwn M X.A X.env (XIn X E) := fun ev s h =>
  x_note h.frames hst hf h fun s' q => x_back hf q fun s'' z => z
end

/-! ### an exception behind a call -/
def CXF (P : Program) (w : World) : CXT := fun l H s E ev s' => ∃ e cls dx H' T, ev = .ref e ∧ s'.os = s.os ∧ AllBare s'.gens ∧ Un (frs l) [] H H' s.heap s'.heap ∧ HOk P w H' s'.heap ∧ H' e = none ∧ s.heap.objs.size ≤ e ∧
  XAt s'.heap e cls dx (.ref T) ∧ T ≠ e ∧ H' T = none ∧ s.heap.objs.size ≤ T ∧ TbAt s'.heap T .none ∧ E cls dx H'
section
variable {X : Cx} {E : XS}
theorem x_leave {EK : XK} {M : Model} {A : Around} {F : Value → Shared → Prop} {s : Shared} {ev : Value} {tb : Bool} {mk : Option Bool} (hA : A.frames = some X.stack) (hst : X.stack = X.env :: X.outer) (hf : X.env.frame = some X.env.locals) (hex : X.ex = [])
    (h : XBe X (fun cls dx _ H => EK cls dx H) tb mk ev s) : wpAny M A (leaving X.env ev) (fun _ s'' => CXF X.prog X.w X.outer X.H₀ X.s₀ EK ev s'') F s := by
  unfold leaving
  refine wpAny_bind (x_note hA hst hf h fun s1 q => x_flight (.inl rfl) q fun s2 q2 => ?_)
  obtain ⟨e, cls, dx, σ, H, rfl, I, oe, ht, hE⟩ := q2
  rcases ht with ⟨z, _⟩ | ⟨T, fl, xa, oT, ne, ta, hfl⟩
  · cases z
  · have e1 : fl = .none := hfl
    subst e1
    have b := I.base
    rw [hex] at b
    exact ⟨e, cls, dx, H, T, rfl, I.os, I.bare, b, I.hok, oe.free, oe.new, xa, ne, oT.free, oT.new, ta, hE⟩
/-- it comes out of a call -/
theorem x_come {EK : XK} {pins : List (Addr × Obj)} {σ : St} {H : Hp} {s s' : Shared} {ev : Value} (I : Inv X pins σ H s) (h : CXF X.prog X.w X.stack H s EK ev s') (hE : ∀ cls dx H', EK cls dx H' → E cls dx σ H') : XIn X E ev s' := by
  obtain ⟨e, cls, dx, H', T, rfl, os, ba, un, hok, he, le, xa, ne, hT, lT, ta, q⟩ := h
  have J := I.call' os un hok ba (fun b z => absurd z (by simp))
  have J0 : Inv X [] σ H' s' := J.pins_of fun p hp => absurd hp (by simp)
  have own : ∀ b, H' b = none → s.heap.objs.size ≤ b → Own X H' b := fun b hb lb => ⟨hb, Nat.le_trans I.sz lb, Nat.ne_of_gt (Nat.lt_of_lt_of_le I.lt lb), fun x c e z => by
    obtain ⟨v, q⟩ := I.cell x c e
    exact absurd (Nat.lt_of_lt_of_le q.lt (by rw [z]; exact lb)) (Nat.lt_irrefl _), fun p hp z => absurd (Nat.lt_of_lt_of_le (Heap.lt_size (I.pin p (List.mem_append_left _ hp)).1) (by rw [z]; exact lb)) (Nat.lt_irrefl _)⟩
  exact ⟨e, cls, dx, σ, H', rfl, J0, own e he le, .inr ⟨T, .none, xa, own T hT lT, ne, ta, .inl rfl⟩, hE _ _ _ q⟩
end
/-- the body's context where exceptions are wanted as E -/
abbrev Cx.raises (X : Cx) (E : XS) : Cx := X.wish (XIn X E)
theorem PSs.wish {X : Cx} {f : Value → Shared → Prop} {st : List Stmt} {t : TS} (h : PSs (X.wish f) st t) (hf : ∀ e s, f e s → X.xe e s) : PSs X st t := fun pins s σ H D I hw =>
  wpAny_mono (h pins s σ H D (I.wish _) hw) (fun _ _ q => q.unwish) hf
section
variable {X : Cx} {E : XS} {k : Nat} {sp : Sp} {x : Str} {p pos : Pos} {e : Expr} {es : List Expr} {t : TA}
/-- f(..) of a def that may raise -/
def tCallX (sp : Sp) (E : XS) (t : TA) : TE := fun σ H Q => t σ H fun vs H1 => sp vs H1 Q fun cls dx H' => E cls dx σ H'
theorem pe_defX (G : Def X.prog X.w X.K X.mg X.base (CXF X.prog X.w) k x sp) (hr : Room k X.A) (ha : PA (X.raises E) (e :: es) t) (hg : Gl (X.raises E) x := by rfl) (hdb : (x == ("__debug__" : Str)) = false := by decide)
    (he : starEach (e :: es) X.env = (false, eval e X.env) :: starEach es X.env := by rfl) (hpl : (backTo pos (starEach es X.env)).any (·.1) = false := by rfl) :
    PE (X.raises E) (.Call (.Name x p) (e :: es) [] pos) (tCallX sp E t) := by
  obtain ⟨f, fd, ps, F, b, c, d⟩ := G.ex
  intro pins s σ H Q I h
  refine wpAny_Call_Name_kw (ld_glob I hg c (PySem.W.callWith_K (h₀ := X.base) I.ok.mod.kin d
    (thn (ha pos pins s σ H _ I h) fun us s1 ⟨vs, H1, I1, r, q⟩ => ⟨I1.kIn, ?_⟩) he hpl) hdb)
  have hl : us.length = ps.length := by rw [← r.length]; exact F.len _ _ _ _ q
  have bd := b s1 us I1.kIn (by simpa using hl)
  rw [List.append_nil] at bd
  refine wpAny_call (codeAny_mono (F.run X.A X.stack s1 H1 ⟨us, []⟩ us vs Q (fun cls dx H' => E cls dx σ H') hr I1.unwish.env0 bd r q) fun r s' hq => ?_)
  cases r with
  | error ev => exact x_come I1.unwish hq fun _ _ _ z => z
  | ok fl =>
    cases fl with
    | ret u => exact (I1.after hq : EP (X.raises E) pins σ Q u s')
    | _ => exact False.elim hq
end
section
variable {P : Program} {w : World} {K : PySem.W.Frag} {mg : Str → Option Value} {base : Heap}
/-- a def that may raise: its body in a context that wants exceptions as E -/
theorem Fun.okX {x qual : Str} {st : Stmt} {f : Addr} {fd : FuncData} {N ps : List Str} {k : Nat} {sp : Sp} (F : Fun K x qual st f fd) (S : FnScope N ps (defScope st)) (len : ∀ vs H Q E, sp vs H Q E → vs.length = ps.length)
    (hbody : ∀ (cdv : Value) (A : Around) (outer : List Env) (s : Shared) (H : Hp) (vs : List V) (Q : VK) (E : XK), Room k (A.deeper (envOfC qual (defScope st) s.heap.objs.size f cdv)) → sp vs H Q E →
      ∃ t, PSs ((cxOf (CXF P w) P w K mg base N qual (defScope st) f cdv A outer s H E).raises fun cls dx _ H' => E cls dx H') (defBody st) t ∧ t { nx := fun _ H' => Q .non H', rt := Q } (start N vs) H) : FnOk P w K mg base (CXF P w) (k + 1) f fd ps sp := by
  obtain ⟨oc, od, kV, doc, pm, an, cdv, ct, osl, rfl, lk, hcd⟩ := F.ex
  refine fn_of lk hcd S len fun A outer s H vs Q E hr hsp => ?_
  obtain ⟨t, ht, q⟩ := hbody cdv A outer s H vs Q E hr hsp
  exact ⟨t, ht.wish fun ev s' z => x_leave z.frames rfl rfl rfl z, q⟩
end

/-! ### try: .. except C as n: .. -/
section
variable {X : Cx} {pins : List (Addr × Obj)} {σ : St} {H : Hp} {s : Shared}
abbrev Cx.pinTo (X : Cx) (ps : List (Addr × Obj)) : Cx := { X with pn := X.pn ++ ps }
abbrev Cx.suite (X : Cx) (ev : Value) (ps : List (Addr × Obj)) : Cx := { X with pn := X.pn ++ ps, A := X.A.mark (some ev), calm := false, xe := fun _ _ => False }
theorem Inv.pinTo (I : Inv X pins σ H s) : Inv (X.pinTo pins) [] σ H s := by
  obtain ⟨ok, a1, a2, a3, a4, a5, a6, a7, a8, a9, a10⟩ := I
  exact ⟨⟨ok.mod, ok.kind, ok.glob, ok.blt, ok.above, ok.inj, ok.has, ok.cab, ok.hd, ok.frames, ok.stk, ok.exf, ok.bs, ok.bsz, ok.noex, ok.exfs, ok.funs, ok.frf⟩, a1, a2, a3, a4, a5, a6, a7, fun p hp => a8 p (by simpa using hp), a9, a10⟩
theorem Inv.unpinTo (I : Inv (X.pinTo pins) [] σ H s) : Inv X pins σ H s := by
  obtain ⟨ok, a1, a2, a3, a4, a5, a6, a7, a8, a9, a10⟩ := I
  exact ⟨⟨ok.mod, ok.kind, ok.glob, ok.blt, ok.above, ok.inj, ok.has, ok.cab, ok.hd, ok.frames, ok.stk, ok.exf, ok.bs, ok.bsz, ok.noex, ok.exfs, ok.funs, ok.frf⟩, a1, a2, a3, a4, a5, a6, a7, fun p hp => a8 p (by simpa using hp), a9, a10⟩
theorem Inv.insuite {ev : Value} {ps : List (Addr × Obj)} (I : Inv (X.pinTo pins) ps σ H s) : Inv (X.suite ev pins) ps σ H s := by
  obtain ⟨ok, a1, a2, a3, a4, a5, a6, a7, a8, a9, a10⟩ := I
  exact ⟨⟨ok.mod, ok.kind, ok.glob, ok.blt, ok.above, ok.inj, ok.has, ok.cab, (fun z => by cases z), ok.frames, ok.stk, ok.exf, ok.bs, ok.bsz, ok.noex, ok.exfs, ok.funs, ok.frf⟩, a1, a2, a3, a4, a5, a6, a7, a8, a9, a10⟩
theorem Inv.outsuite {ev : Value} {ps : List (Addr × Obj)} (I : Inv (X.suite ev pins) ps σ H s) (h0 : X.Ok) : Inv (X.pinTo pins) ps σ H s := by
  obtain ⟨ok, a1, a2, a3, a4, a5, a6, a7, a8, a9, a10⟩ := I
  exact ⟨⟨ok.mod, ok.kind, ok.glob, ok.blt, ok.above, ok.inj, ok.has, ok.cab, h0.hd, ok.frames, ok.stk, ok.exf, ok.bs, ok.bsz, ok.noex, ok.exfs, ok.funs, ok.frf⟩, a1, a2, a3, a4, a5, a6, a7, a8, a9, a10⟩
/-- a thing of ours is told to the abstract heap -/
theorem Inv.track {e : Addr} {o : HO} (I : Inv X [] σ H s) (oe : Own X H e) (new : ObjOk X.prog X.w (upd H e o) s.heap e o) : Inv X [] σ (upd H e o) s := by
  have st : Inv X [] σ (upd H e o) { s with heap := s.heap, gens := s.gens, drawn := s.drawn, toks := s.toks } := by
    refine I.step (ch := [e]) (fun b hb => ?_) (fun b o' _ _ _ q _ => q) (fun b o' _ _ _ q _ => ⟨o'.slots, q⟩) (fun b o' hb _ n => ?_) (fun b o' _ q => ⟨o', q⟩) (fun b xs q => ?_) (fun b ob u q => ?_) (fun b ps q => ⟨#[], ?_⟩) (fun m q => q) (fun b u q => ?_) I.bare
    · have : b = e := by simpa using hb
      subst this
      exact ⟨.inr oe.new, oe.loc, oe.cel, fun p hp => oe.pin p (by simpa using hp)⟩
    · rw [upd_ne (fun z => hb (by simp [z]))]; exact n
    · rw [upd_ne (ne_of_none q oe.free)]; exact q
    · rw [upd_ne (ne_of_none q oe.free)]; exact q
    · rw [upd_ne (ne_of_none q oe.free), q]; simp
    · by_cases hb : b = e
      · subst hb
        rw [upd_same] at q
        cases q
        exact new
      · rw [upd_ne hb] at q
        exact (I.hok b u q).stay (fun _ _ _ r => r) (fun c r => by rw [upd_ne (ne_of_none r oe.free)]; exact r) fun c xs r => by rw [upd_ne (ne_of_none r oe.free)]; exact r
  exact st
end
end L2

set_option Elab.async false
set_option linter.all false
set_option maxRecDepth 100000
set_option maxHeartbeats 4000000
namespace L2
open PySem PySem.Spec PyProof.Rows
/-- an exception's object, as it is known; fr: nobody has raised it -/
def xO (fr : Bool) (cls : Value) (dx : Option Addr) (e : Addr) : HO := .ext fun h => ∃ oe vs, h.get? e = some oe ∧ oe.cls = cls ∧ oe.dict = dx ∧ oe.data = .fields vs ∧ (fr = true → ∃ a0, vs = #[a0, .none, .none, .none, .bool false, .none])
theorem xO_ok {P : Program} {w : World} {H : Hp} {h : Heap} {fr : Bool} {cls : Value} {dx : Option Addr} {e : Addr} {oe : Obj} {vs : Array Value} (h1 : h.get? e = some oe) (h2 : oe.cls = cls) (h3 : oe.dict = dx) (h4 : oe.data = .fields vs)
    (h5 : fr = true → ∃ a0, vs = #[a0, .none, .none, .none, .bool false, .none]) : ObjOk P w H h e (xO fr cls dx e) := ⟨⟨oe, vs, h1, h2, h3, h4, h5⟩, ⟨oe, h1⟩, fun _ _ ⟨o, vs, y1, y2⟩ k => ⟨o, vs, k o y1, y2⟩⟩
/-- an own class of exceptions at C; bm: its mro behind itself -/
def XCls (K : PySem.W.Frag) (C : Addr) (bm : List Value) : Prop := bm.contains (.type "BaseException") = true ∧ ∃ nm q N bs hdct sn sub ab col dd k0 k1 k2 k3 k5 newId, K.lookup C = some (excClassObj nm q C N bs bm hdct sn sub ab col dd k0 k1 k2 k3 k5 newId)
section
variable {X : Cx} {pins : List (Addr × Obj)} {σ : St} {H : Hp} {s : Shared}
theorem name_goes {M : Model} {A : Around} {E : Value → Shared → Prop} {i : Nat} {n : Str} {pos : Pos} {Q : Unit → Shared → Prop} (I : Inv X pins σ H s) (hN : X.N.Nodup) (hi : X.N[i]? = some n) (hk : X.env.scope.names.lookup n = some .local)
    (h : ∀ s', Inv X pins (σ.set i none) H s' → Q () s') : wpAny M A (do bindName X.env n .none; unbindBehindTheSuite X.env n pos) Q E s := by
  obtain ⟨m, hn, hl⟩ := id I.loc
  have hc : (X.env.scope.kind == .class || (X.env.scope.kind == .module && X.env.locals != X.env.globals)) = false := by rw [I.ok.kind]; rfl
  have old : ∀ b o, X.s₀.heap.get? b = some o → b ≠ X.env.locals := fun b o q z => by
    have := Nat.lt_of_lt_of_le (Heap.lt_size q) I.ok.above
    rw [z] at this
    exact Nat.lt_irrefl _ this
  have hiσ : i < σ.length := by rw [I.len]; exact (List.getElem?_eq_some_iff.mp hi).1
  refine wpAny_nameGoes_keeps hk hn hc fun h' v hn' hs => h _ ?_
  refine ⟨I.ok, I.os, I.bare, ⟨fun b o q n1 n2 n3 => ?_, fun b o q n1 n2 n3 => ?_, I.base.free, fun b o q n3 => ?_, I.base.tups, I.base.frzs, I.base.tbls⟩, ⟨_, hn', fun j y v' e1 e2 e3 => ?_⟩, fun y c q => ?_, I.free, I.freeC, fun p hp => ?_, fun b ob q => ?_, by simpa using I.len⟩
  · rw [← I.base.keep b o q n1 n2 n3]; exact hs.2 b (old b o q)
  · obtain ⟨sl, q1⟩ := I.base.slot b o q n1 n2 n3
    exact ⟨sl, by rw [← q1]; exact hs.2 b (old b o q)⟩
  · obtain ⟨o', q1⟩ := I.base.there b o q n3
    exact ⟨o', by rw [← q1]; exact hs.2 b (old b o q)⟩
  · by_cases hj : j = i
    · subst hj
      rw [List.getElem?_set_self hiσ] at e2
      cases e2
    · rw [List.getElem?_set_ne (Ne.symm hj)] at e2
      obtain ⟨u, r, q⟩ := hl j y v' e1 e2 e3
      have hy : y ≠ n := fun z => hj (nodup_ix hN e1 (z ▸ hi))
      refine ⟨u, r, ?_⟩
      rcases q with ⟨k, q⟩ | ⟨k, c, q, z⟩
      · exact .inl ⟨k, by simp only [hy, if_false]; exact q⟩
      · exact .inr ⟨k, c, q, z.sameBut hs (I.cne y c q)⟩
  · obtain ⟨w', z⟩ := I.cell y c q
    exact ⟨w', z.sameBut hs (I.cne y c q)⟩
  · obtain ⟨q, n1, n2, n3, d⟩ := I.pin p hp
    exact ⟨(hs.2 p.1 n2).trans q, n1, n2, n3, d⟩
  · refine (I.hok b ob q).stay (fun c w' hh r => (hs.2 c ?_).trans r) (fun _ r => r) fun _ _ r => r
    rintro rfl
    rcases hh with rfl | hh
    · rw [I.free] at q; cases q
    · rw [I.free] at hh; cases hh
end
section
variable {M : Model} {A : Around} {E : Value → Shared → Prop}
theorem exc_matches {h : Heap} {g : Array GenState} {d : Drawn} {t : Nat} {os : OsState} {e C W : Addr} {oe : Obj} {bm bw : List Value} {Q : Bool → Shared → Prop} {nm q nm' q' : Str} {N N' : Addr} {bs bs' : List Value} {hdct hdct' : Bool} {sn sn' : List Str} {sub sub' : List Value} {ab ab' : Bool} {col col' : Option Bool} {dd dd' : Option Addr} {k0 k1 k2 k3 k5 l0 l1 l2 l3 l5 : Option Value} {newId newId' : String}
    (hC : h.get? C = some (excClassObj nm q C N bs bm hdct sn sub ab col dd k0 k1 k2 k3 k5 newId)) (hW : h.get? W = some (excClassObj nm' q' W N' bs' bw hdct' sn' sub' ab' col' dd' l0 l1 l2 l3 l5 newId'))
    (he : h.get? e = some oe) (hcls : oe.cls = .ref C) (hb : bw.contains (.type "BaseException") = true) (hm : (Value.ref C :: bm).contains (.ref W) = true) (hq : Q true ⟨h, g, d, t, os⟩) : wpAny M A (excMatches (.ref e) (.ref W)) Q E ⟨h, g, d, t, os⟩ := by
  have hwB : (Value.ref W :: bw).contains (.type "BaseException") = true := by rw [List.contains_cons, hb, Bool.or_true]
  have nt := tc_notTuple
  unfold excMatches
  repeat (first | (with_reducible refine wpAny_loadPart_at he ?_; rw [hcls]) | with_reducible refine wpAny_loadPart_at hW ?_
                | (with_reducible refine wpAny_isSubtype_exc hW ?_; rw [hwB]) | (with_reducible refine wpAny_isSubtype_exc hC ?_; rw [hm]) | wp_step)
  exact hq
end

/-! ### try -/
/-- what is wanted of an exception of a try's body: C is among its class's, and the suite goes on -/
def tEx (K : PySem.W.Frag) (C : Addr) (i : Nat) (ts : TS) (D : Ends) : XS := fun cls dx σ H => (∃ Ce bm, cls = .ref Ce ∧ XCls K Ce bm ∧ (Value.ref Ce :: bm).contains (.ref C) = true) ∧
  ∀ e, H e = none → ts { nx := fun σ' H' => D.nx (σ'.set i none) H', rt := D.rt, bk := fun σ' H' => D.bk (σ'.set i none) H', ct := fun σ' H' => D.ct (σ'.set i none) H' } (σ.set i (some (.ref e))) (upd H e (xO false cls dx e))
def tTry (K : PySem.W.Frag) (C : Addr) (i : Nat) (tb : XS → TS) (ts : TS) : TS := fun D σ H => tb (tEx K C i ts D) D σ H
section
variable {X : Cx} {i : Nat} {n x : Str} {C : Addr} {bw : List Value} {body suite : List Stmt} {b0 : Stmt} {np hp pos : Pos} {tb : XS → TS} {ts : TS}
theorem SP.unpin {E : XS} {pins : List (Addr × Obj)} {D : Ends} {f : Flow} {s : Shared} (h : SP ((X.pinTo pins).raises E) [] D f s) : SP X pins D f s := by
  match f, h with
  | .next, ⟨σ, H, I, q⟩ => exact ⟨σ, H, I.unwish.unpinTo, q⟩
  | .brk, ⟨σ, H, I, q⟩ => exact ⟨σ, H, I.unwish.unpinTo, q⟩
  | .cont, ⟨σ, H, I, q⟩ => exact ⟨σ, H, I.unwish.unpinTo, q⟩
  | .ret u, ⟨v, σ, H, I, r, q⟩ => exact ⟨v, σ, H, I.unwish.unpinTo, r, q⟩
theorem ps_try (hN : X.N.Nodup) (hi : X.N[i]? = some n) (hk : X.env.scope.names.lookup n = some .local) (hg : Gl X x) (hm : X.mg x = some (.ref C)) (hC : XCls X.K C bw) (hst : X.stack = X.env :: X.outer) (hf : X.env.frame = some X.env.locals)
    (hb : ∀ EX pins, PSs ((X.pinTo pins).raises EX) body (tb EX)) (hs : ∀ e pins, PSs (X.suite (.ref e) pins) (b0 :: suite) ts) (hd : (x == ("__debug__" : Str)) = false := by decide) :
    PS X (.Try body [.ExceptHandler (some (.Name x np)) (some n) (b0 :: suite) hp] [] [] pos) (tTry X.K C i tb ts) := by
  intro pins s σ H D I h
  have ok := I.ok
  refine wpAny_Try_except (wpAny_mono (hb (tEx X.K C i ts D) pins [] s σ H D (I.pinTo.wish _) h) (fun f s1 q => ?_) fun ev s1 q => ?_)
  · have q' := SP.unpin q
    cases f with
    | next =>
      show wpAny _ _ (execs [] _) _ _ _
      exact (wpAny_execs_nil q' : _)
    | _ => exact q'
  · have q0 : XIn (X.pinTo pins) (tEx X.K C i ts D) ev s1 := q
    refine x_note (X := X.pinTo pins) q0.frames hst hf q0 fun s2 q2 => x_flight (X := X.pinTo pins) (.inl rfl) q2 fun s3 q3 => ?_
    obtain ⟨e, cls, dx, σ1, H1, rfl, I1, oe, ht, hE⟩ := id q3
    obtain ⟨⟨Ce, bm, rfl, hCe, hmro⟩, hgo⟩ := hE
    obtain ⟨hbB, nm', q', N', bs', hdct', sn', sub', ab', col', dd', l0, l1, l2, l3, l5, newId', lkW⟩ := hC
    obtain ⟨hbC, nm, qn, N, bs, hdct, sn, sub, ab, col, dd, k0, k1, k2, k3, k5, newId, lkC⟩ := hCe
    have ge : ∃ oe, s3.heap.get? e = some oe ∧ oe.cls = .ref Ce := by
      rcases ht with ⟨_, ob, vs, g1, g2, _⟩ | ⟨T, fl, ⟨ob, vs, g1, g2, _⟩, _⟩
      · exact ⟨ob, g1, g2⟩
      · exact ⟨ob, g1, g2⟩
    obtain ⟨ob, ge, gc⟩ := ge
    have gW := I1.kIn C _ lkW
    have gC := I1.kIn Ce _ lkC
    refine wpAny_handleBy_cons (codeAny_handlers_test (ld_glob (X := X.suite (.ref e) pins) (I1.insuite (X := X) (ev := .ref e)) hg hm ?_ hd)) (by intro z; cases z)
    obtain ⟨h3, g3, d3, t3, os3⟩ := s3
    refine exc_matches gC gW ge gc hbB hmro ?_
    refine codeAny_handlers_suite_as (x_flight (X := X.pinTo pins) (.inl rfl) q3 fun s4 q4 => ?_)
    obtain ⟨e', cls4, dx4, σ4, H4, ee, I4, oe4, ht4, hE4⟩ := q4
    cases ee
    obtain ⟨_, hgo4⟩ := hE4
    have xa : ∃ oe vs, s4.heap.get? e = some oe ∧ oe.cls = cls4 ∧ oe.dict = dx4 ∧ oe.data = .fields vs := by
      rcases ht4 with ⟨_, ob, vs, g1, g2, g3, g4, _⟩ | ⟨T, fl, ⟨ob, vs, g1, g2, g3, g4, _⟩, _⟩
      · exact ⟨ob, vs, g1, g2, g3, g4⟩
      · exact ⟨ob, vs, g1, g2, g3, g4⟩
    obtain ⟨oe5, vs5, x1, x2, x3, x4⟩ := xa
    have J := I4.track oe4 (o := xO false cls4 dx4 e) (xO_ok x1 x2 x3 x4 fun z => by cases z)
    refine store_ok (X := X.pinTo pins) J hN hi (.inl hk) (show RelV (.ref e) (.ref e) from rfl) (fun s5 J5 => ?_) (.inr hk)
    refine wpAny_mono (hs e pins [] s5 _ _ _ (J5.insuite (X := X) (ev := .ref e)) (hgo4 e oe4.free)) (fun f s6 q6 => ?_) fun _ _ z => z.elim
    have goes : ∀ {σ6 : St} {H6 : Hp} {R : Unit → Shared → Prop}, Inv (X.suite (.ref e) pins) [] σ6 H6 s6 → (∀ s7, Inv X pins (σ6.set i none) H6 s7 → R () s7) → wpAny (model X.prog X.w) X.A (do bindName X.env n .none; unbindBehindTheSuite X.env n hp) R X.xe s6 := fun I6 hR =>
      name_goes (X := X.pinTo pins) (I6.outsuite ok) hN hi hk fun s7 I7 => hR s7 I7.unpinTo
    match f, q6 with
    | .next, ⟨σ6, H6, I6, z⟩ => exact goes I6 fun s7 I7 => ⟨_, H6, I7, z⟩
    | .brk, ⟨σ6, H6, I6, z⟩ => exact goes I6 fun s7 I7 => ⟨_, H6, I7, z⟩
    | .cont, ⟨σ6, H6, I6, z⟩ => exact goes I6 fun s7 I7 => ⟨_, H6, I7, z⟩
    | .ret u, ⟨v, σ6, H6, I6, r, z⟩ => exact goes I6 fun s7 I7 => ⟨v, _, H6, I7, r, z⟩
end
end L2

set_option Elab.async false
set_option linter.all false
set_option maxRecDepth 100000
set_option maxHeartbeats 4000000
namespace L2
open PySem PySem.Spec PyProof.Rows

/-! ### own classes of exceptions, all above ValueError -/
abbrev vMro : List Value := [.type "ValueError", .type "Exception", .type "BaseException", .type "object"]
theorem tail_has {K : PySem.W.Frag} {bB : List Value} {v : Value} (hv : bB.contains v = true) : ∀ {l : List Value}, PySem.W.tailIn K bB l = true → l.contains v = true
  | [], e => by
    have z : bB = [] := beq_iff_eq.mp e
    rw [z] at hv
    exact hv
  | u :: r, e => by
    unfold PySem.W.tailIn at e
    rcases Bool.or_eq_true_iff.mp e with q | q
    · rw [beq_iff_eq.mp q]; exact hv
    · split at q
      · split at q
        · simp only [Bool.and_eq_true] at q
          rw [List.contains_cons, tail_has hv q.2, Bool.or_true]
        · cases q
      · cases q
theorem tail_lets {K : PySem.W.Frag} (self : Value) : ∀ {l : List Value}, PySem.W.tailIn K vMro l = true → refuseLoop self "__setattr__" l = pure ()
  | [], e => by cases beq_iff_eq.mp e
  | u :: r, e => by
    unfold PySem.W.tailIn at e
    rcases Bool.or_eq_true_iff.mp e with q | q
    · rw [beq_iff_eq.mp q]; exact PySem.F.store_ValueError.passes self
    · split at q
      · split at q
        · simp only [Bool.and_eq_true] at q
          rw [refuseLoop_ref]
          exact tail_lets self q.2
        · cases q
      · cases q
structure XC (K : PySem.W.Frag) (C : Addr) (bm : List Value) : Prop where
  lk : ∃ nm q N bs sn sub ab col dd k0 k1 k2 k3 k5, K.lookup C = some (excClassObj nm q C N bs bm true sn sub ab col dd k0 k1 k2 k3 k5 "ValueError.__new__")
  tl : PySem.W.tailIn K vMro bm = true
  kp : PySem.W.keepIn K (.ref C) = true
  ga : PySem.W.findIn K (.ref C) "__getattribute__" = some (some (.builtin "BaseException.__getattribute__"))
  gh : PySem.W.findIn K (.ref C) "__getattr__" = some none
  gc : PySem.W.findIn K (.ref C) "__class__" = some (some (.builtin "object.__class__"))
  sa : PySem.W.findIn K (.ref C) "__setattr__" = some (some (.builtin "object.__setattr__"))
section
variable {K : PySem.W.Frag} {C W : Addr} {bm bw : List Value}
theorem XC.cls (c : XC K C bm) : ∃ cd, PySem.W.clsIn K C = some cd ∧ cd.mro = .ref C :: bm ∧ cd.hasDict = true := by
  obtain ⟨nm, q, N, bs, sn, sub, ab, col, dd, k0, k1, k2, k3, k5, lk⟩ := c.lk
  exact ⟨_, by unfold PySem.W.clsIn; rw [lk], rfl, rfl⟩
theorem XC.mro (c : XC K C bm) (v : Value) : PySem.W.mroIn K C v = some ((Value.ref C :: bm).contains v) := by
  obtain ⟨cd, h1, h2, _⟩ := c.cls
  unfold PySem.W.mroIn
  rw [h1, Option.bind_some, h2, if_neg (by simp)]
theorem XC.has (c : XC K C bm) {v : Value} (hv : vMro.contains v = true) : (Value.ref C :: bm).contains v = true := by rw [List.contains_cons, tail_has hv c.tl, Bool.or_true]
theorem XC.xcls (c : XC K C bm) : XCls K C bm := by
  obtain ⟨nm, q, N, bs, sn, sub, ab, col, dd, k0, k1, k2, k3, k5, lk⟩ := c.lk
  exact ⟨tail_has (by decide) c.tl, _, _, _, _, _, _, _, _, _, _, _, _, _, _, _, _, lk⟩
theorem XC.dict (c : XC K C bm) : PySem.W.hasDictIn K C = true := by
  obtain ⟨cd, h1, _, h3⟩ := c.cls
  unfold PySem.W.hasDictIn
  rw [h1]
  exact h3
theorem XC.tail (c : XC K C bm) {h : Heap} (X : K.In h) : OwnTail h vMro bm := PySem.W.tail_of_in X c.tl
end

/-! ### C(..) -/
abbrev xTup (us : List Value) : Obj := { cls := .type "tuple", data := .seq us.toArray }
abbrev xNew (C t : Addr) : Obj := { cls := .ref C, data := .fields #[.ref t, .none, .none, .none, .bool false, .none] }
abbrev xHp (h : Heap) (C : Addr) (us : List Value) : Heap := (h.push (xTup us)).push (xNew C h.objs.size)
section
variable {prog : Program} {w : World} {A : Around} {E : Value → Shared → Prop} {h : Heap} {g : Array GenState} {d : Drawn} {t : Nat} {os : OsState} {K : PySem.W.Frag} {C : Addr} {bm us : List Value}
theorem xHp_keep {b : Addr} {o : Obj} (e : h.get? b = some o) : (xHp h C us).get? b = some o := Heap.get?_push_of_some _ (Heap.get?_push_of_some _ e)
theorem xHp_new : (xHp h C us).get? (h.objs.size + 1) = some (xNew C h.objs.size) := by
  have := Heap.get?_push_size (h.push (xTup us)) (o := xNew C h.objs.size) rfl
  rwa [Heap.size_push] at this
theorem x_born {init : Value} {Q : Fin → Shared → Prop} (X : K.In h) (c : XC K C bm) (hu : us.length ≤ sizeLine) (hi : PySem.W.Looks (model prog w) h (typeLookup (.ref C) "__init__") (some init))
    (hb : ∀ self, PySem.W.Looks (model prog w) h (bindSpecial init self) (init, [self]))
    (go : wpAny (model prog w) A (call init (.ref (h.objs.size + 1) :: us)) (fun r s' => r = .none ∧ Q (.done (.ret (.ref (h.objs.size + 1)))) s') E ⟨xHp h C us, g, d, t, os⟩) :
    wpAny (model prog w) A (Builtin.«type.__call__» ⟨.ref C :: us, []⟩) Q E ⟨h, g, d, t, os⟩ := by
  have F := PySem.F.excBase_ValueError
  have T := c.tail X
  obtain ⟨nm, qn, N, bs, sn, sub, ab, col, dd, k0, k1, k2, k3, k5, lk⟩ := c.lk
  have cC := X _ _ lk
  repeat (first
    | with_reducible refine wpAny_loadPart_at cC ?_
    | with_reducible refine wpAny_madeBy_exc cC ?_
    | wp_step)
  refine codeAny_call_builtin_code (Code.quiet_builtin _ F.quiet) (wpAny_check_new_subT F T cC ?_)
  refine codeAny_exc_new_subT F T cC ?_ hu
  show wpAny _ _ _ _ _ _
  have c2 := xHp_keep (C := C) (us := us) cC
  have n2 : (xHp h C us).get? (h.objs.size + 1) = some (xNew C h.objs.size) := xHp_new
  have self : (Value.ref C :: bm).contains (.ref C) = true := by simp
  unfold isInstance
  repeat (first
    | with_reducible refine wpAny_loadPart_at n2 ?_
    | (with_reducible refine wpAny_isSubtype_exc c2 ?_; rw [self])
    | wp_step)
  show wpAny _ _ (typeLookup (.ref C) _) _ _ _
  refine (hi.keeps fun _ _ => xHp_keep).at ?_
  refine wpAny_holding (wpAny_bind (((hb _).keeps fun _ _ => xHp_keep).at ?_))
  refine wpAny_bind (wpAny_mono go (fun r s' z => ?_) fun _ _ z => z)
  obtain ⟨rfl, z⟩ := z
  wp_walk
  exact z
theorem x_call {init : Value} {Q : Value → Shared → Prop} (X : K.In h) (c : XC K C bm) (hu : us.length ≤ sizeLine) (hi : PySem.W.Looks (model prog w) h (typeLookup (.ref C) "__init__") (some init))
    (hb : ∀ self, PySem.W.Looks (model prog w) h (bindSpecial init self) (init, [self]))
    (go : wpAny (model prog w) (A.under (.builtin "type.__call__" ⟨.ref C :: us, []⟩)) (call init (.ref (h.objs.size + 1) :: us)) (fun r s' => r = .none ∧ Q (.ref (h.objs.size + 1)) s') E ⟨xHp h C us, g, d, t, os⟩) :
    wpAny (model prog w) A (call (.ref C) us) Q E ⟨h, g, d, t, os⟩ := by
  obtain ⟨nm, qn, N, bs, sn, sub, ab, col, dd, k0, k1, k2, k3, k5, lk⟩ := c.lk
  have cC := X _ _ lk
  have l1 := tc_lookup
  have l2 := tc_bind (.ref C)
  have ty : (⟨h, g, d, t, os⟩ : Shared).TypeIs (.ref C) "type" := ⟨_, cC, rfl⟩
  refine wpAny_call (codeAny_of_tree ?_)
  show wpAny _ _ (callAny (.ref C) _) _ _ _
  repeat (any_goals (first
    | assumption
    | with_reducible refine wpAny_loadPart_at cC ?_
    | wp_step))
  refine ⟨rfl, ?_⟩
  exact codeAny_call_builtin_at (Code.quiet_builtin _ (by decide +kernel)) entry_typeCall (wpAny_check_type_call_sub cC (x_born X c hu hi hb go))
end
end L2

set_option Elab.async false
set_option linter.all false
set_option maxRecDepth 100000
set_option maxHeartbeats 1000000
namespace L2
open PySem PySem.Spec PyProof.Rows
/-! ### its attributes -/
section
variable {prog : Program} {w : World} {A : Around} {E : Value → Shared → Prop} {s : Shared} {K : PySem.W.Frag} {C x : Addr} {bm : List Value} {ox : Obj} {od : Option Obj} {name : Str}
theorem x_by {tk : Tok} {fill ex : Bool} {Q : Value → Shared → Prop} (X : K.In s.heap) (c : XC K C bm) (I : PySem.W.InstAt s.heap x ox C od)
    (go : ∀ A', wpAny (model prog w) A' (Builtin.«object.__getattribute__» ⟨[.ref x, .str name tk], []⟩) (fun fin s' => ∃ v, fin = .done (.ret v) ∧ PySem.W.handedIn v = true ∧ Q v s') (fun _ _ => False) s) :
    wpAny (model prog w) A (getAttrBy (.ref x) (.str name tk) fill ex) Q E s := by
  have FA := PySem.F.attrBase_ValueError
  have l0 := I.type (M := model prog w)
  have l1 := PySem.W.looks_findIn (M := model prog w) X c.ga
  have l2 := PySem.W.looks_findIn (M := model prog w) X c.gh
  have nb : (Value.builtin "BaseException.__getattribute__" == Value.builtin "object.__getattribute__") = false := by decide +kernel
  have no : (onTheHeap (Value.ref C) && Value.builtin "BaseException.__getattribute__" == Value.builtin "object.__getattribute__") = false := by rw [nb]; rfl
  have ne : (ex && onTheHeap (Value.builtin "BaseException.__getattribute__")) = false := by cases ex <;> rfl
  unfold getAttrBy
  refine wpAny_holding (wpAny_bind (l0.here (wpAny_bind (l1.here ?_))))
  dsimp only
  rw [no, if_neg (by decide)]
  unfold getAttrByItsOwn
  refine wpAny_bind ?_
  show wpAny _ _ (typeLookup (.ref C) "__getattr__") _ _ _
  refine l2.here ?_
  refine wpAny_bind (wpAny_attempt (wpAny_holding ?_))
  unfold callGetattribute
  rw [ne, if_neg (by decide)]
  unfold boundAndCalled
  rw [FA.ga.bind]
  refine wpAny_bind (wpAny_pure ?_)
  show wpAny _ _ (call (.builtin "BaseException.__getattribute__") [.ref x, .str name tk]) _ _ _
  have lb : PySem.W.Looks (model prog w) s.heap (isInstance (.ref x) (.type "BaseException")) true := l0.andThen (PySem.W.looks_mroIn X (by rw [c.mro, c.has (by decide)]))
  have k1 : builtinKind "BaseException.__getattribute__" = some .slot := by decide +kernel
  have k2 : splitId "BaseException.__getattribute__" = some ("BaseException", "__getattribute__") := by decide +kernel
  refine wpAny_call (codeAny_call_builtin FA.ga.plain PySem.F.entry_bexc_ga ?_)
  refine @PySem.W.check_slot (model prog w) _ _ s "BaseException.__getattribute__" "BaseException" "__getattribute__" (.ref x) [.str name tk] [] _ k1 k2 lb (PySem.F.args_bexc_ga (.ref x) (.str name tk)) ?_
  refine wpAny_mono (go _) (fun fin s' z => ?_) fun _ _ z => z.elim
  obtain ⟨v, rfl, hv, q⟩ := z
  dsimp only
  rw [PySem.W.handedOut_of hv]
  exact wpAny_pure q
theorem x_get {v : Value} {ex : Bool} {Q : Value → Shared → Prop} (X : K.In s.heap) (c : XC K C bm) (I : PySem.W.InstAt s.heap x ox C od) (hf : PySem.W.findObj K C od name = some (.value v)) (hv : PySem.W.handedIn v = true)
    (q : Q v { s with toks := s.toks + 1 }) : wpAny (model prog w) A (getAttr (.ref x) name ex) Q E s := by
  unfold getAttr
  refine wpAny_bind (wpAny_mkText ?_)
  refine x_by (s := { s with toks := s.toks + 1 }) X c I fun A' => ?_
  have l0 := I.type (M := model prog w)
  have l1 := PySem.W.looks_find (M := model prog w) X I hf
  obtain ⟨hh, g, d, t, os⟩ := s
  unfold Builtin.«object.__getattribute__» slotArgs
  repeat lk
  exact ⟨v, rfl, hv, q⟩
theorem x_set {v : Value} {vs : Array Value} {o : Obj} {Q : Unit → Shared → Prop} (X : K.In s.heap) (c : XC K C bm) (ha : PySem.W.findIn K (.ref C) name = some none) (hx : s.heap.get? x = some o) (hc : o.cls = .ref C) (hd : o.dict = none) (hv : o.data = .fields vs)
    (go : ∀ h' tk, h'.get? x = some { o with dict := some s.heap.objs.size } → h'.Ns1 s.heap.objs.size (fun y => if y = name then some v else none) → (∀ b ob, b ≠ x → s.heap.get? b = some ob → h'.get? b = some ob) → Q () { s with heap := h', toks := tk }) :
    wpAny (model prog w) A (setAttr (.ref x) name v) Q E s := by
  have I : PySem.W.InstAt s.heap x o C none := ⟨hx, hc, by unfold PySem.W.notCls; rw [hv], by rw [hd]; trivial⟩
  have SF := PySem.F.store_object
  obtain ⟨cd, h1, h2, h3⟩ := c.cls
  have l0 := I.type (M := model prog w)
  have l1 := PySem.W.looks_findIn (M := model prog w) X ha
  have l2 : PySem.W.Looks (model prog w) s.heap (mroOf (.ref C)) cd.mro := (PySem.W.looks_clsIn X h1).andThen .now
  have l3 := PySem.W.looks_clsIn (M := model prog w) X h1
  have lb : PySem.W.Looks (model prog w) s.heap (isInstance (.ref x) (.type "object")) true := l0.andThen (PySem.W.looks_mroIn X (by rw [c.mro, c.has (by decide)]))
  refine PySem.W.set_plain X I c.sa ?_
  refine codeAny_call_builtin SF.slot.plain SF.entry (@PySem.W.check_slot (model prog w) _ _ { s with toks := s.toks + 1 } "object.__setattr__" "object" "__setattr__" (.ref x) [.str name s.toks, v] [] _ SF.kind SF.split lb (SF.args (.ref x) (.str name s.toks) v) ?_)
  rw [PySem.W.osa_eq, refuse_eq]
  obtain ⟨hh, g, d, t, os⟩ := s
  refine wpAny_bind (wpAny_bind (l0.at (wpAny_bind (l2.at ?_))))
  rw [h2, refuseLoop_ref, tail_lets _ c.tl]
  refine wpAny_pure (wpAny_bind (l0.at (wpAny_bind (l1.at (wpAny_bind (wpAny_pure ?_))))))
  obtain ⟨oc, odi, oda, osl⟩ := o
  dsimp only at hc hd hv hx go
  subst hc hd hv
  show wpAny _ _ (Builtin.ObjectAttr.storeInOwnDict _ _ _ _ _ _) _ _ _
  unfold Builtin.ObjectAttr.storeInOwnDict
  refine wpAny_bind (wpAny_pure (wpAny_bind ?_))
  show wpAny _ _ (instanceDict x true) _ _ _
  unfold instanceDict
  refine wpAny_bind (wpAny_loadPart hx ?_)
  dsimp only
  refine wpAny_bind (l3.at ?_)
  rw [h3]
  have nsz : x ≠ hh.objs.size := Nat.ne_of_lt (Heap.lt_size hx)
  have x1 := Heap.get?_push_of_some PySem.W.emptyDict hx
  refine wpAny_bind (wpAny_alloc' (wpAny_bind (wpAny_update' x1 ?_)))
  refine wpAny_pure ?_
  generalize hg : ((hh.push PySem.W.emptyDict).update x fun o => { o with dict := some hh.objs.size }) = h2
  have xd : h2.get? x = some ⟨.ref C, some hh.objs.size, .fields vs, osl⟩ := by rw [← hg]; exact Heap.get?_update_self _ x1 rfl
  have dd : h2.get? hh.objs.size = some PySem.W.emptyDict := by rw [← hg]; exact (Heap.get?_update_ne _ _ _ _ nsz.symm).trans (Heap.get?_push_at rfl rfl)
  have kp : ∀ b ob, b ≠ x → hh.get? b = some ob → h2.get? b = some ob := fun b ob nb q => by rw [← hg]; exact (Heap.get?_update_ne _ _ _ _ nb).trans (Heap.get?_push_of_some _ q)
  have nd : h2.Ns hh.objs.size (fun _ => none) := ⟨_, #[], _, dd, rfl, fun e he => absurd he (by simp), fun _ => rfl⟩
  show wpAny _ _ (Builtin.ObjectAttr.storeInDict hh.objs.size _ name v) _ _ _
  unfold Builtin.ObjectAttr.storeInDict Builtin.ObjectAttr.newKeyGuard
  refine wpAny_bind (wpAny_pure (wpAny_bind (wpAny_nsSet1 (Heap.Ns1.of_empty nd) fun h' hn sb => ?_)))
  obtain ⟨oD, es, ep, g1, g2, g3⟩ := hn.count (Within.cons name v Within.nil)
  refine wpAny_bind (wpAny_lookBehind g1 (by rw [g2]; exact pastItsLine_dict (Nat.le_trans g3 (by rw [List.length_cons, List.length_nil, sizeLine_eq]; omega))) ?_)
  refine wpAny_pure ?_
  exact go h' _ ((sb.2 x nsz).trans xd) hn fun b ob nb q => (sb.2 b (Nat.ne_of_lt (Heap.lt_size q))).trans (kp b ob nb q)
end
end L2

set_option Elab.async false
set_option linter.all false
set_option maxRecDepth 100000
set_option maxHeartbeats 4000000
namespace L2
open PySem PySem.Spec PyProof.Rows
/-! ### isinstance of an exception; its word -/
section
variable {X : Cx} {a c o e value : Expr} {ta tc tv : TE} {p pos pos' : Pos} {f : Str}
/-- e.f of an exception that has a dict -/
def tXFld (K : PySem.W.Frag) (ta : TE) (f : Str) : TE := fun σ H Q => ta σ H fun x H1 => ∃ a C bm fr dx fs v, x = .ref a ∧ XC K C bm ∧ H1 a = some (xO fr (.ref C) (some dx) a) ∧ H1 dx = some (.xd fs) ∧ NoAttr K C f ∧ fs.lookup f = some v ∧ Q v H1
theorem pe_xfld (he : PE X e ta) (hb : attributeBase e f X.env (eval e X.env) = eval e X.env) : PE X (.Attribute e f pos) (tXFld X.K ta f) := by
  intro pins s σ H Q I h
  refine attr_of hb (thn (he pins s σ H _ I h) fun u s1 ⟨x, H1, I1, rx, a, C, bm, fr, dx, fs, v, ex, c, ha, hd, n, l, q⟩ => ?_)
  subst ex
  obtain rfl : u = Value.ref a := rx
  obtain ⟨⟨oe, vs, g1, g2, g3, g4, _⟩, _⟩ := (show ObjOk X.prog X.w H1 s1.heap a (xO fr (.ref C) (some dx) a) from I1.hok a _ ha)
  obtain ⟨mA, ⟨od, es, ep, z1, z2, z3, z4, z5⟩, rf⟩ := (show ObjOk X.prog X.w H1 s1.heap dx (.xd fs) from I1.hok dx _ hd)
  obtain ⟨w, hw, rw'⟩ := RelO.some_of (v := v) (o := mA f) (by rw [← l]; exact rf f)
  have li : PySem.W.lookIn f od = some (some w) := by
    have q5 := z5 f
    rw [hw] at q5
    unfold PySem.W.lookIn
    rw [z2]
    dsimp only
    unfold nsFind findBy at q5
    rw [← Array.find?_toList] at q5
    cases ef : es.toList.find? (·.key.isStr f) with
    | none => rw [ef] at q5; cases q5
    | some en => rw [ef] at q5; cases q5; rfl
  have J : PySem.W.InstAt s1.heap a oe C (some od) := ⟨g1, g2, by unfold PySem.W.notCls; rw [g4], by rw [g3]; exact z1⟩
  exact x_get I1.kIn c J (PySem.W.findObj_own c.dict n rfl li) (handed_of rw') ⟨v, H1, I1.tok _, rw', q⟩
/-- e.f = value, the first one -/
def sXFld (K : PySem.W.Frag) (ta tv : TE) (f : Str) : TS := fun D σ H => tv σ H fun y H1 => ta σ H1 fun x H2 => ∃ a C bm fr, x = .ref a ∧ XC K C bm ∧ H2 a = some (xO fr (.ref C) none a) ∧ NoAttr K C f ∧
  ∀ dx, H2 dx = none → dx ≠ a → D.nx σ (upd (upd H2 a (xO fr (.ref C) (some dx) a)) dx (.xd [(f, y)]))
theorem ps_xfld (ha : PE X o ta) (hv : PE X value tv) (hs : swapsWith value (some (.Attribute o f pos')) pos.line X.env = pure false) : PS X (.Assign [.Attribute o f pos'] value pos) (sXFld X.K ta tv f) := by
  intro pins s σ H D I h
  refine plainObj_wpAny_Assign_Attribute (thn (hv pins s σ H _ I h) fun u s1 ⟨y, H1, I1, ry, q⟩ => thn (ha pins s1 σ H1 _ I1 q) fun ov s2 ⟨x, H2, I2, rx, a, C, bm, fr, ex, c, hA, n, q2⟩ => ?_) hs
  subst ex
  obtain rfl : ov = Value.ref a := rx
  obtain ⟨⟨oe, vs, g1, g2, g3, g4, g5⟩, _⟩ := (show ObjOk X.prog X.w H2 s2.heap a (xO fr (.ref C) none a) from I2.hok a _ hA)
  have fr0 : H2 s2.heap.objs.size = none := I2.hok.fresh (Nat.le_refl _)
  have na : s2.heap.objs.size ≠ a := Ne.symm (Nat.ne_of_lt (Heap.lt_size g1))
  refine x_set I2.kIn c n g1 g2 g3 g4 fun h' tk k1 k2 k3 => ⟨σ, _, ?_, q2 _ fr0 na⟩
  have old : ∀ b ob, H2 b = none → s2.heap.get? b = some ob → h'.get? b = some ob := fun b ob hb e => k3 b ob (fun z => by rw [z, hA] at hb; cases hb) e
  have up : ∀ b, b ≠ a → b ≠ s2.heap.objs.size → upd (upd H2 a (xO fr (.ref C) (some s2.heap.objs.size) a)) s2.heap.objs.size (.xd [(f, y)]) b = H2 b := fun b n1 n2 => by rw [upd_ne n2, upd_ne n1]
  have lt : ∀ b ob, s2.heap.get? b = some ob → b ≠ s2.heap.objs.size := fun b ob e => Nat.ne_of_lt (Heap.lt_size e)
  refine I2.un (t' := tk) ⟨fun b ob e n _ _ => old b ob n e, fun b ob e n _ _ => ⟨ob.slots, old b ob n e⟩, fun b ob e n _ => ?_, fun b ob e _ => ?_, fun b xs e => ?_, fun b ob u e => ?_, fun b ps e => ⟨#[], ?_⟩⟩ fun b u e => ?_
  · rw [up b (fun z => by rw [z, hA] at n; cases n) (lt b ob e)]; exact n
  · by_cases hb : b = a
    · subst hb; exact ⟨_, k1⟩
    · exact ⟨ob, k3 b ob hb e⟩
  · rw [up b (fun z => by rw [z, hA] at e; cases e) (fun z => by rw [z, fr0] at e; cases e)]; exact e
  · rw [up b (fun z => by rw [z, hA] at e; cases e) (fun z => by rw [z, fr0] at e; cases e)]; exact e
  · rw [up b (fun z => by rw [z, hA] at e; cases e) (fun z => by rw [z, fr0] at e; cases e), e]; simp
  · by_cases hd : b = s2.heap.objs.size
    · subst hd
      rw [upd_same] at e
      cases e
      refine ⟨_, k2, fun g => ?_⟩
      by_cases z : g = f
      · subst z; simp [List.lookup, RelO]; exact ry
      · have z2 : (g == f) = false := beq_eq_false_iff_ne.mpr z
        simp [List.lookup, z, z2, RelO]
    · by_cases hb : b = a
      · subst hb
        rw [upd_ne hd, upd_same] at e
        cases e
        exact xO_ok k1 g2 rfl g4 g5
      · rw [up b hb hd] at e
        refine (I2.hok b u e).stay (fun x ox hh r => k3 x ox (fun z => ?_) r) (fun x r => ?_) fun x xs r => ?_
        · subst z
          rcases hh with hh | hh
          · exact hb hh.symm
          · rw [hA] at hh; cases hh
        · rw [up x (fun z => by rw [z, hA] at r; cases r) (fun z => by rw [z, fr0] at r; cases r)]; exact r
        · rw [up x (fun z => by rw [z, hA] at r; cases r) (fun z => by rw [z, fr0] at r; cases r)]; exact r
end

/-! ### C(..), raise C(..) -/
def del (H : Hp) (e : Addr) : Hp := fun b => if b = e then none else H b
theorem del_ne {H : Hp} {e b : Addr} (h : b ≠ e) : del H e b = H b := if_neg h
theorem del_same {H : Hp} {e : Addr} : del H e e = none := if_pos rfl
theorem del_upd {H : Hp} {e : Addr} {o : HO} (h : H e = none) : del (upd H e o) e = H := by
  funext b
  by_cases q : b = e
  · subst q; rw [del_same, h]
  · rw [del_ne q, upd_ne q]
theorem del_upd_ne {H : Hp} {e d : Addr} {o : HO} (h : d ≠ e) : del (upd H d o) e = upd (del H e) d o := by
  funext b
  by_cases q : b = e
  · subst q; rw [del_same, upd_ne (Ne.symm h), del_same]
  · rw [del_ne q]
    by_cases z : b = d
    · subst z; rw [upd_same, upd_same]
    · rw [upd_ne z, upd_ne z, del_ne q]
section
variable {X : Cx} {pins : List (Addr × Obj)} {σ : St} {H : Hp} {s : Shared}
theorem Inv.untrack {e : Addr} {φ : Heap → Prop} (I : Inv X pins σ H s) (hx : H e = some (.ext φ)) : Inv X pins σ (del H e) s := by
  have nn : ∀ b, H b = none → del H e b = none := fun b n => by
    by_cases q : b = e
    · rw [q]; exact del_same
    · rw [del_ne q]; exact n
  have ne : ∀ {b : Addr} {o : HO}, H b = some o → (∀ ψ, o ≠ .ext ψ) → del H e b = some o := fun {b o} q n => by
    rw [del_ne (fun z => by rw [z, hx] at q; exact n φ (Option.some.inj q).symm)]; exact q
  refine ⟨I.ok, I.os, I.bare, ⟨I.base.keep, I.base.slot, fun b o q n m => nn b (I.base.free b o q n m), I.base.there, fun b xs q => ne (I.base.tups b xs q) fun _ z => (by cases z), fun b o u q => ne (I.base.frzs b o u q) fun _ z => (by cases z), fun b ps q => ?_⟩, I.loc, I.cell, nn _ I.free, fun y c q => nn _ (I.freeC y c q), fun p hp => ?_, fun b u q => ?_, I.len⟩
  · obtain ⟨more, z⟩ := I.base.tbls b ps q
    exact ⟨more, ne z fun _ z => by cases z⟩
  · obtain ⟨a, b, c⟩ := I.pin p hp
    exact ⟨a, nn _ b, c⟩
  · by_cases z : b = e
    · rw [z, del_same] at q; cases q
    · rw [del_ne z] at q
      exact (I.hok b u q).stay (fun _ _ _ r => r) (fun c r => ne r fun _ z => by cases z) fun c xs r => ne r fun _ z => by cases z
end
section
variable {X : Cx} {C f : Addr} {bm : List Value} {k : Nat} {fd : FuncData} {ps : List Str} {sp : Sp} {x : Str} {p pos rpos : Pos} {e : Expr} {es : List Expr} {t : TA}
/-- what a class must have to be made: its own __init__, or ValueError's -/
structure XMk (P : Program) (w : World) (K : PySem.W.Frag) (mg : Str → Option Value) (base : Heap) (C : Addr) (k : Nat) (sp : Sp) : Prop where
  ok : ∃ f fd ps, PySem.W.findIn K (.ref C) "__init__" = some (some (.ref f)) ∧ PySem.W.typeIn K (.ref f) = some (.type "function") ∧ FnOk P w K mg base CX0 k f fd ps sp ∧ Binds K fd ps []
theorem Inv.xborn {pins : List (Addr × Obj)} {σ : St} {H : Hp} {s : Shared} {us : List Value} (I : Inv X pins σ H s) : Inv X pins σ (upd H (s.heap.objs.size + 1) (xO true (.ref C) none (s.heap.objs.size + 1))) { s with heap := xHp s.heap C us } :=
  I.laid (a := s.heap.objs.size + 1) (o := xO true (.ref C) none (s.heap.objs.size + 1)) (t' := s.toks) (fun _ _ => xHp_keep) (Nat.le_succ _) (xO_ok xHp_new rfl rfl rfl fun _ => ⟨_, rfl⟩)
theorem run_x {pins : List (Addr × Obj)} {σ : St} {H : Hp} {s : Shared} {Q : Addr → Hp → Prop} {us : List Value} {vs : List V} (c : XC X.K C bm) (M : XMk X.prog X.w X.K X.mg X.base C k sp) (hr : Room (k + 1) X.A) (I : Inv X pins σ H s) (r : Vals vs us) (hu : vs.length ≤ sizeLine)
    (h : ∀ e, H e = none → sp (.ref e :: vs) (upd H e (xO true (.ref C) none e)) (fun v H2 => v = .non ∧ Q e H2) E0) :
    wpAny (model X.prog X.w) X.A (call (.ref C) us) (fun u s' => ∃ e H2, u = .ref e ∧ s.heap.objs.size ≤ e ∧ Inv X pins σ H2 s' ∧ Q e H2) X.xe s := by
  obtain ⟨f, fd, ps, hi, hf, F, hb⟩ := M.ok
  have hq := h (s.heap.objs.size + 1) (I.hok.fresh (Nat.le_succ _))
  have I2 := Inv.xborn (C := C) (us := us) I
  have r2 : Vals (V.ref (s.heap.objs.size + 1) :: vs) (Value.ref (s.heap.objs.size + 1) :: us) := .cons rfl r
  have hl : (Value.ref (s.heap.objs.size + 1) :: us ++ []).length = ps.length := by
    rw [List.append_nil, ← r2.length]
    exact F.len _ _ _ _ hq
  have bd := hb _ (Value.ref (s.heap.objs.size + 1) :: us) I2.kIn hl
  rw [List.append_nil] at bd
  have run := F.run _ X.stack _ _ ⟨Value.ref (s.heap.objs.size + 1) :: us, []⟩ (Value.ref (s.heap.objs.size + 1) :: us) _ _ E0 (hr.make C us []) (I2.env0.make C us []) bd r2 hq
  have K0 := I.kIn
  have sz : s.heap.objs.size ≤ s.heap.objs.size + 1 := Nat.le_succ _
  obtain ⟨hh, g, d, tk, os⟩ := s
  refine x_call K0 c (by rw [← r.length]; exact hu) (PySem.W.looks_findIn K0 hi) (fun self => PySem.W.bind_fn K0 self hf) ?_
  refine wpAny_call (codeAny_mono run fun rr s' z => ?_)
  cases rr with
  | error ev => exact z.elim
  | ok fl =>
    cases fl with
    | ret u =>
      obtain ⟨v, H', I3, rv, ev, q3⟩ := I2.after z
      subst ev
      exact ⟨rv, _, H', rfl, sz, I3, q3⟩
    | _ => exact z.elim
theorem ev_exc {pins : List (Addr × Obj)} {σ : St} {H : Hp} {s : Shared} {R : List V → Hp → Prop} {Q : Value → Shared → Prop} (c : XC X.K C bm) (hg : Gl X x) (hm : X.mg x = some (.ref C)) (ha : PA X (e :: es) t) (I : Inv X pins σ H s) (h : t σ H R)
    (go : ∀ us vs s1 H1, Inv X pins σ H1 s1 → Vals vs us → R vs H1 → X.s₀.heap.objs.size ≤ s1.heap.objs.size → wpAny (model X.prog X.w) X.A (call (.ref C) us) Q X.xe s1)
    (hdb : (x == ("__debug__" : Str)) = false := by decide) (he : starEach (e :: es) X.env = (false, eval e X.env) :: starEach es X.env := by rfl) (hpl : (backTo pos (starEach es X.env)).any (·.1) = false := by rfl) :
    wpAny (model X.prog X.w) X.A (eval (.Call (.Name x p) (e :: es) [] pos) X.env) Q X.xe s := by
  refine wpAny_Call_Name_kw (ld_glob I hg hm ?_ hdb)
  exact PySem.W.callWith_K (h₀ := X.base) I.ok.mod.kin c.kp (thn (ha pos pins s σ H _ I h) fun us s1 ⟨vs, H1, I1, r, q⟩ => ⟨I1.kIn, go us vs s1 H1 I1 r q I1.sz⟩) he hpl
/-- raise of what is an exception -/
theorem x_raise {M : Model} {A : Around} {E : Value → Shared → Prop} {s : Shared} {env : Env} {v : Sem Value} {Q : Flow → Shared → Prop} {K : PySem.W.Frag} (hh : A.handled = none) (c : XC K C bm)
    (h : wpAny M A v (fun u s1 => ∃ e oe a0, u = .ref e ∧ K.In s1.heap ∧ s1.heap.get? e = some oe ∧ oe.cls = .ref C ∧ oe.data = .fields #[a0, .none, .none, .none, .bool false, .none] ∧ E u s1) E s) : wpAny M A (raiseStmt env (some v) none) Q E s := by
  have hB := c.has (v := .type "BaseException") (by decide)
  obtain ⟨nm, qn, N, bs, sn, sub, ab, col, dd, k0, k1, k2, k3, k5, lk⟩ := c.lk
  unfold raiseStmt
  refine wpAny_bind (wpAny_mono h (fun u s1 z => ?_) fun _ _ z => z)
  obtain ⟨e, oe, a0, rfl, X, he, hc, hd, hE⟩ := z
  have cC := X _ _ lk
  obtain ⟨hp, g, d, tk, os⟩ := s1
  obtain ⟨oc, odi, oda, osl⟩ := oe
  dsimp only at hc hd
  subst hc hd
  repeat (first
    | with_reducible refine wpAny_loadPart_at he ?_
    | with_reducible refine wpAny_loadPart_at cC ?_
    | (with_reducible refine wpAny_isSubtype_exc cC ?_; rw [hB])
    | wp_step)
  exact wpAny_raiseNew_none hh hE
/-- an exception that was just made leaves as E wants -/
theorem XIn.fresh {E : XS} {σ : St} {H1 H2 : Hp} {s1 s2 : Shared} {pins : List (Addr × Obj)} {e : Addr} {dx : Option Addr} (I1 : Inv X pins σ H1 s1) (I2 : Inv X pins σ H2 s2) (le : s1.heap.objs.size ≤ e) (hx : H2 e = some (xO true (.ref C) dx e)) (hE : E (.ref C) dx σ (del H2 e)) : XIn X E (.ref e) s2 := by
  obtain ⟨⟨oe, vs, g1, g2, g3, g4, g5⟩, _⟩ := (show ObjOk X.prog X.w H2 s2.heap e (xO true (.ref C) dx e) from I2.hok e _ hx)
  obtain ⟨a0, rfl⟩ := g5 rfl
  refine ⟨e, .ref C, dx, σ, del H2 e, rfl, (I2.untrack hx).pins_of fun p hp => absurd hp (by simp), ⟨del_same, Nat.le_trans I1.sz le, Nat.ne_of_gt (Nat.lt_of_lt_of_le I1.lt le), fun y c q z => ?_, fun p hp z => ?_⟩, .inl ⟨rfl, oe, _, g1, g2, g3, g4, rfl⟩, hE⟩
  · obtain ⟨v, q⟩ := I1.cell y c q
    exact absurd (Nat.lt_of_lt_of_le q.lt (by rw [z]; exact le)) (Nat.lt_irrefl _)
  · exact absurd (Nat.lt_of_lt_of_le (Heap.lt_size (I1.pin p (List.mem_append_left _ hp)).1) (by rw [z]; exact le)) (Nat.lt_irrefl _)
def tRaise (C : Addr) (sp : Sp) (E : XS) (t : TA) : TS := fun _ σ H => t σ H fun vs H1 => vs.length ≤ sizeLine ∧ ∀ e, H1 e = none → sp (.ref e :: vs) (upd H1 e (xO true (.ref C) none e)) (fun v H2 => v = .non ∧ ∃ dx, H2 e = some (xO true (.ref C) dx e) ∧ E (.ref C) dx σ (del H2 e)) E0
theorem ps_raise {E : XS} (hc : X.calm = true) (c : XC X.K C bm) (M : XMk X.prog X.w X.K X.mg X.base C k sp) (hr : Room (k + 1) X.A) (hm : X.mg x = some (.ref C)) (ha : PA (X.raises E) (e :: es) t) (hg : Gl X x := by rfl)
    (hdb : (x == ("__debug__" : Str)) = false := by decide) (he : starEach (e :: es) X.env = (false, eval e X.env) :: starEach es X.env := by rfl) (hpl : (backTo pos (starEach es X.env)).any (·.1) = false := by rfl) :
    PS (X.raises E) (.Raise (some (.Call (.Name x p) (e :: es) [] pos)) none rpos) (tRaise C sp E t) := by
  intro pins s σ H D I h
  rw [arm_exec_Raise]
  refine wpAny_bind (wpAny_standAt ?_)
  refine x_raise (K := X.K) (I.ok.hd hc) c (wpAny_bind (ev_exc (X := X.raises E) c hg hm ha I h (fun us vs s1 H1 I1 r ⟨z, q⟩ _ => thn (run_x (X := X.raises E) (Q := fun e H2 => ∃ dx, H2 e = some (xO true (.ref C) dx e) ∧ E (.ref C) dx σ (del H2 e)) c M hr I1 r z q) fun u s2 ⟨e2, H2, eu, le, I2, dx, hx, hE⟩ => ?_) hdb he hpl))
  subst eu
  obtain ⟨⟨oe, vs', g1, g2, g3, g4, g5⟩, _⟩ := (show ObjOk X.prog X.w H2 s2.heap e2 (xO true (.ref C) dx e2) from I2.hok e2 _ hx)
  obtain ⟨a0, rfl⟩ := g5 rfl
  exact wpAny_bind (wpAny_standAt (wpAny_pure ⟨e2, oe, a0, rfl, I2.kIn, g1, g2, g4, XIn.fresh I1.unwish I2.unwish le hx hE⟩))
end
/-! ### a call of what a local name holds, which may raise -/
section
variable {X : Cx} {E : XS} {k : Nat} {Fam : Addr → Sp → Prop} {x : Str} {p pos : Pos} {e : Expr} {es : List Expr} {tf : TE} {t : TA}
def tCallVX (Fam : Addr → Sp → Prop) (E : XS) (tf : TE) (t : TA) : TE := fun σ H Q => tf σ H fun x H1 => ∃ f sp, x = .ref f ∧ Fam f sp ∧ t σ H1 fun vs H2 => sp vs H2 Q fun cls dx H' => E cls dx σ H'
theorem pe_callVX (hF : ∀ f sp, Fam f sp → Callee X.prog X.w X.K X.mg X.base (CXF X.prog X.w) k f sp) (hr : Room k X.A) (hf : PE (X.raises E) (.Name x p) tf) (ha : PA (X.raises E) (e :: es) t)
    (he : starEach (e :: es) X.env = (false, eval e X.env) :: starEach es X.env := by rfl) (hpl : (backTo pos (starEach es X.env)).any (·.1) = false := by rfl) :
    PE (X.raises E) (.Call (.Name x p) (e :: es) [] pos) (tCallVX Fam E tf t) := by
  intro pins s σ H Q I h
  refine wpAny_Call_Name_kw (thn (hf pins s σ H _ I h) fun u s1 ⟨y, H1, I1, r1, f, sp, ey, fam, q⟩ => ?_)
  subst ey
  obtain rfl : u = Value.ref f := r1
  obtain ⟨⟨fd, ps, F, hb⟩, hk⟩ := hF f sp fam
  refine PySem.W.callWith_K (h₀ := X.base) I.ok.mod.kin hk (thn (ha pos pins s1 σ H1 _ I1 q) fun us s2 ⟨vs, H2, I2, r, q2⟩ => ⟨I2.kIn, ?_⟩) he hpl
  have hl : us.length = ps.length := by rw [← r.length]; exact F.len _ _ _ _ q2
  have bd := hb s2 us I2.kIn (by simpa using hl)
  rw [List.append_nil] at bd
  refine wpAny_call (codeAny_mono (F.run X.A X.stack s2 H2 ⟨us, []⟩ us vs Q (fun cls dx H' => E cls dx σ H') hr I2.unwish.env0 bd r q2) fun rr s' z => ?_)
  cases rr with
  | error ev => exact x_come I2.unwish z fun _ _ _ z => z
  | ok fl =>
    cases fl with
    | ret u => exact (I2.after z : EP (X.raises E) pins σ Q u s')
    | _ => exact z.elim
end
end L2

set_option Elab.async false
set_option linter.all false
set_option maxRecDepth 100000
set_option maxHeartbeats 4000000
namespace L2
open PySem PySem.Spec PyProof.Rows

/-! ### a list comprehension within which others read its names: cells of its own -/
theorem cells_app : ∀ (l : List (Str × NameKind)) (n : Nat) (acc : List (Str × Addr)), cellsFrom n l acc = cellsFrom n l [] ++ acc
  | [], _, _ => rfl
  | (y, k) :: r, n, acc => by
    unfold cellsFrom
    split
    · rw [cells_app r (n + 1) ((y, n) :: acc), cells_app r (n + 1) [(y, n)], List.append_assoc]; rfl
    · exact cells_app r n acc
theorem own_mem {x : Str} {c : Addr} : ∀ {l : List (Str × NameKind)} {n : Nat} {acc : List (Str × Addr)}, (x, c) ∈ cellsFrom n l acc → (x, NameKind.cell) ∈ l ∨ (x, c) ∈ acc
  | [], _, _, h => .inr h
  | (y, k) :: r, n, acc, h => by
    unfold cellsFrom at h
    split at h
    · rename_i hk
      have hk' : k = .cell := by simpa using hk
      rcases own_mem h with q | q
      · exact .inl (List.mem_cons_of_mem _ q)
      · rcases List.mem_cons.mp q with z | z
        · cases z; subst hk'; exact .inl List.mem_cons_self
        · exact .inr z
    · rcases own_mem h with q | q
      · exact .inl (List.mem_cons_of_mem _ q)
      · exact .inr q
theorem own_has {x : Str} : ∀ {l : List (Str × NameKind)} {n : Nat} {acc : List (Str × Addr)}, ((x, NameKind.cell) ∈ l ∨ ∃ c, (x, c) ∈ acc) → ∃ c, (x, c) ∈ cellsFrom n l acc
  | [], _, _, h => by
    rcases h with h | h
    · cases h
    · exact h
  | (y, k) :: r, n, acc, h => by
    unfold cellsFrom
    split
    · rename_i hk
      refine own_has ?_
      rcases h with h | ⟨c, h⟩
      · rcases List.mem_cons.mp h with z | z
        · cases z; exact .inr ⟨n, List.mem_cons_self⟩
        · exact .inl z
      · exact .inr ⟨c, List.mem_cons_of_mem _ h⟩
    · rename_i hk
      refine own_has ?_
      rcases h with h | h
      · rcases List.mem_cons.mp h with z | z
        · cases z; exact absurd rfl hk
        · exact .inl z
      · exact .inr h
abbrev ownCs (scope : Scope) (C : Addr) : List (Str × Addr) := cellsFrom (C + 1) scope.names []
def cxCC (X : Cx) (N : List Str) (scope : Scope) (cl : List (Str × Addr)) (C : Addr) (s2 : Shared) (H2 : Hp) (fp : List Addr) : Cx := { cxC X N scope (cellsFrom (C + 1) scope.names cl) C s2 H2 fp with fn := fun x => scope.names.lookup x == some .cell }
structure CompScopeC (X : Cx) (N : List Str) (mp : List (Option Nat)) (scope : Scope) : Prop where
  kind : scope.kind = .function
  cells : ∀ y ∈ scope.names, y.2 = .cell → scope.names.lookup y.1 = some .cell
  names : ∀ y ∈ scope.names, y.2 = .local → scope.names.lookup y.1 = some .local
  len : mp.length = N.length
  out : ∀ (i j : Nat), mp[i]? = some (some j) → ∃ x, N[i]? = some x ∧ X.N[j]? = some x ∧ (X.env.scope.names.lookup x = some .cell ∨ X.env.scope.names.lookup x = some .free) ∧ scope.names.lookup x = some .free
section
variable {M : Model} {A : Around} {E : Value → Shared → Prop} {s : Shared}
theorem newEnv_cells {scope : Scope} {globals builtins : Addr} {cl : List (Str × Addr)} {qual : Str} {env : Env} {Q : Env → Shared → Prop}
    (h : Q (newEnv scope s.heap.objs.size globals (cellsFrom (s.heap.objs.size + 1) scope.names cl) qual none .none (some env) builtins) { s with heap := pushCells (s.heap.push PySem.W.emptyDict) scope.names }) :
    wpAny M A (newFunctionEnv scope globals cl [] qual none .none (some env) builtins) Q E s := by
  simp only [newFunctionEnv, Option.isSome_some, if_true]
  refine wpAny_bind (wpAny_alloc ?_)
  refine wpAny_bind (wpAny_layCells _ (fun name kind cells => by cases hkc : kind == NameKind.cell <;> simp [hkc]) _ _ _ _ ?_)
  rw [show ({ s with heap := s.heap.push { cls := .type "dict", data := .dict #[] } } : Shared).heap.objs.size = s.heap.objs.size + 1 from Heap.size_push ..]
  refine wpAny_bind (wpAny_pure ?_)
  exact wpAny_pure h
end
section
variable {X : Cx}
theorem comp_invC {pins : List (Addr × Obj)} {σ : St} {H : Hp} {s2 : Shared} {N : List Str} {mp : List (Option Nat)} {scope : Scope} {cl : List (Str × Addr)} {fp : List Addr} {h1 : Heap} {tk : Nat} (I : Inv X pins σ H s2) (S : CompScopeC X N mp scope)
    (hcl : closes X.env.cells scope.names [] = some cl) (hfp : ∀ b ∈ fp, FpOk X pins H b) (hfo : ∀ b ∈ fp, ∃ o, s2.heap.get? b = some o)
    (old : ∀ b o, s2.heap.get? b = some o → h1.get? b = some o) (hD : h1.get? s2.heap.objs.size = some { cls := .type "list", data := .seq ([] : List Value).toArray }) {m : Str → Option Value} (hC : h1.Ns (s2.heap.objs.size + 1) m) (cok : CellsOk h1 (s2.heap.objs.size + 2) (ownCs scope (s2.heap.objs.size + 1))) :
    Inv (cxCC X N scope cl (s2.heap.objs.size + 1) s2 H fp) [] (compStart0 mp σ) (upd H s2.heap.objs.size (.lst [])) { s2 with heap := h1, toks := tk } := by
  have clm : ∀ {x : Str} {c : Addr}, cl.lookup x = some c → X.env.cells.lookup x = some c := fun {x c} e => closes_mem hcl (fun p z => absurd z (by simp)) (x, c) (PySem.mem_of_lookup e)
  have hn : H s2.heap.objs.size = none := I.hok.fresh (Nat.le_refl _)
  have hnC : H (s2.heap.objs.size + 1) = none := I.hok.fresh (Nat.le_succ _)
  have cellLt : ∀ {x : Str} {c : Addr}, X.env.cells.lookup x = some c → c < s2.heap.objs.size := fun {x c} e => by
    obtain ⟨v, q⟩ := I.cell x c e
    exact q.lt
  have freeOf : ∀ x, ((relabel scope X.env).names.lookup x = some .cell ∨ (relabel scope X.env).names.lookup x = some .free) → (x, NameKind.free) ∈ scope.names ∨ (x, NameKind.cell) ∈ scope.names := fun x hx => by
    have hm : (x, NameKind.cell) ∈ (relabel scope X.env).names ∨ (x, NameKind.free) ∈ (relabel scope X.env).names := hx.elim (fun z => .inl (PySem.mem_of_lookup z)) fun z => .inr (PySem.mem_of_lookup z)
    have conv : ∀ k, (x, k) ∈ (relabel scope X.env).names → (k = .cell ∨ k = .free) → (x, NameKind.free) ∈ scope.names ∨ (x, NameKind.cell) ∈ scope.names := fun k hm hk => by
      obtain ⟨⟨n, k'⟩, hy, e⟩ := List.mem_map.mp hm
      dsimp only at e
      split at e
      · rename_i hc
        simp only [Bool.and_eq_true, beq_iff_eq] at hc
        cases e
        rw [hc.1.1] at hy
        exact .inl hy
      · cases e
        rcases hk with z | z
        · subst z; exact .inr hy
        · subst z; exact .inl hy
    exact hm.elim (fun z => conv _ z (.inl rfl)) fun z => conv _ z (.inr rfl)
  have app : ∀ x, (cellsFrom (s2.heap.objs.size + 1 + 1) scope.names cl).lookup x = ((ownCs scope (s2.heap.objs.size + 1)).lookup x).or (cl.lookup x) := fun x => by rw [cells_app, List.lookup_append]
  have two : ∀ {x : Str} {c : Addr}, (cellsFrom (s2.heap.objs.size + 1 + 1) scope.names cl).lookup x = some c → ((ownCs scope (s2.heap.objs.size + 1)).lookup x = some c ∧ (h1.IsCell c none ∧ s2.heap.objs.size + 2 ≤ c)) ∨ X.env.cells.lookup x = some c := fun {x c} e => by
    rw [app] at e
    cases eo : (ownCs scope (s2.heap.objs.size + 1)).lookup x with
    | some d =>
      rw [eo] at e
      cases e
      exact .inl ⟨rfl, cok.empty _ _ (PySem.mem_of_lookup eo)⟩
    | none =>
      rw [eo] at e
      exact .inr (clm e)
  have ownHas : ∀ {x : Str}, (x, NameKind.cell) ∈ scope.names → ∃ c, (ownCs scope (s2.heap.objs.size + 1)).lookup x = some c := fun {x} hx => by
    obtain ⟨c, hc⟩ := own_has (n := s2.heap.objs.size + 1 + 1) (acc := []) (.inl hx)
    obtain ⟨d, hd, _⟩ := lookup_of_mem hc
    exact ⟨d, hd⟩
  have ok : (cxCC X N scope cl (s2.heap.objs.size + 1) s2 H fp).Ok := by
    refine ⟨I.ok.mod, S.kind, I.ok.glob, I.ok.blt, Nat.le_succ _, fun x y c e1 e2 => ?_, fun x hx => ?_, fun x c z e => ?_, I.ok.hd, I.ok.frames, .inl rfl, fun b hb => ⟨?_, fun x c e => ?_⟩, I.bs, Nat.le_trans I.ok.bsz I.sz, fun b o e hb => ?_, fun b hb z => ?_, I.stack, I.stkFree⟩
    · rcases two e1 with ⟨o1, _, l1⟩ | o1 <;> rcases two e2 with ⟨o2, _, l2⟩ | o2
      · exact name_of_addr cok.apart (PySem.mem_of_lookup o1) (PySem.mem_of_lookup o2)
      · exact absurd (Nat.lt_of_lt_of_le (cellLt o2) (Nat.le_trans (Nat.le_add_right _ 2) l1)) (Nat.lt_irrefl _)
      · exact absurd (Nat.lt_of_lt_of_le (cellLt o1) (Nat.le_trans (Nat.le_add_right _ 2) l2)) (Nat.lt_irrefl _)
      · exact I.ok.inj x y c o1 o2
    · show ∃ c, (cellsFrom (s2.heap.objs.size + 1 + 1) scope.names cl).lookup x = some c
      rcases freeOf x hx with q | q
      · obtain ⟨c, hc⟩ := closes_has hcl (.inl q)
        obtain ⟨d, hd, _⟩ := lookup_of_mem hc
        rw [app, hd]
        cases (ownCs scope (s2.heap.objs.size + 1)).lookup x with
        | none => exact ⟨d, rfl⟩
        | some c' => exact ⟨c', rfl⟩
      · obtain ⟨c, hc⟩ := ownHas q
        exact ⟨c, by rw [app, hc]; rfl⟩
    · have z' : scope.names.lookup x = some .cell := beq_iff_eq.mp z
      obtain ⟨c', hc'⟩ := ownHas (PySem.mem_of_lookup z')
      have e' : (cellsFrom (s2.heap.objs.size + 1 + 1) scope.names cl).lookup x = some c := e
      rw [app, hc'] at e'
      cases e'
      exact Nat.le_trans (Nat.le_add_right _ 2) (cok.empty _ _ (PySem.mem_of_lookup hc')).2
    · obtain ⟨o, e⟩ := hfo b hb
      exact Nat.ne_of_lt (Nat.lt_succ_of_lt (Heap.lt_size e))
    · rcases two e with ⟨_, _, l⟩ | o
      · obtain ⟨ob, eb⟩ := hfo b hb
        exact Ne.symm (Nat.ne_of_lt (Nat.lt_of_lt_of_le (Heap.lt_size eb) (Nat.le_trans (Nat.le_add_right _ 2) l)))
      · exact (hfp b hb).2.2.2.2.1 x c o
    · rcases (hfp b hb).2.2.2.1 with z | z
      · exact I.ok.noex b o e z
      · exact absurd (Nat.lt_of_lt_of_le (Heap.lt_size e) (Nat.le_trans I.ok.bsz z)) (Nat.lt_irrefl _)
    · rcases List.mem_cons.mp (I.stkSub b z) with q | q
      · exact (hfp b hb).2.1 q
      · exact (hfp b hb).2.2.1 q
  refine ⟨ok, rfl, I.bare, Un.laid old (Nat.le_refl _) hn, ⟨m, hC, fun i x v e1 e2 e3 => ?_⟩, fun x c e => ?_, ?_, fun x c e => ?_, (fun p hp => nomatch hp), ?_, ?_⟩
  · -- a name around
    unfold compStart0 at e2
    rw [List.getElem?_map] at e2
    cases em : mp[i]? with
    | none => rw [em] at e2; cases e2
    | some o =>
      rw [em] at e2
      cases o with
      | none => cases e2
      | some j =>
        have e2' : (σ[j]?).bind id = some v := Option.some.inj e2
        obtain ⟨x', n1, n2, n3, n4⟩ := S.out i j em
        rw [show (cxCC X N scope cl (s2.heap.objs.size + 1) s2 H fp).N[i]? = N[i]? from rfl, n1] at e1
        cases e1
        have sj : σ[j]? = some (some v) := by
          cases ej : σ[j]? with
          | none => rw [ej] at e2'; cases e2'
          | some o => rw [ej] at e2'; exact congrArg some e2'
        obtain ⟨m0, hm0, hl⟩ := I.loc
        obtain ⟨u, ru, lk⟩ := hl j x v n2 sj (.inr n3)
        refine ⟨u, ru, .inr ⟨?_, ?_⟩⟩
        · have hf : (x, NameKind.free) ∈ scope.names := PySem.mem_of_lookup n4
          -- the relabelled kind
          have key : ∀ l : List (Str × NameKind), l.lookup x = some .free → ((l.map fun (n, k) => if (k == NameKind.free && X.env.scope.kind == .function && X.env.kindOf n == some .cell) then (n, NameKind.cell) else (n, k)).lookup x = some .cell ∨
              (l.map fun (n, k) => if (k == NameKind.free && X.env.scope.kind == .function && X.env.kindOf n == some .cell) then (n, NameKind.cell) else (n, k)).lookup x = some .free) := by
            intro l
            induction l with
            | nil => intro z; cases z
            | cons y r ih =>
              obtain ⟨n, k⟩ := y
              intro z
              rw [List.lookup_cons] at z
              rw [List.map_cons]
              dsimp only
              by_cases en : (x == n) = true
              · rw [en] at z
                dsimp only at z
                cases z
                split
                · exact .inl (by rw [List.lookup_cons, en])
                · exact .inr (by rw [List.lookup_cons, en])
              · have en2 : (x == n) = false := by simpa using en
                rw [en2] at z
                dsimp only at z
                split
                · rw [List.lookup_cons, en2]; exact ih z
                · rw [List.lookup_cons, en2]; exact ih z
          exact key scope.names n4
        · have hf : (x, NameKind.free) ∈ scope.names := PySem.mem_of_lookup n4
          obtain ⟨c, hc⟩ := closes_has hcl (.inl hf)
          obtain ⟨d, hd, _⟩ := lookup_of_mem hc
          rcases lk with ⟨k1, _⟩ | ⟨_, c', hc', z⟩
          · have k1' : X.env.scope.names.lookup x = some .local := k1
            rcases n3 with z | z <;> (rw [k1'] at z; cases z)
          · have e := clm hd
            rw [hc'] at e
            have e3 : c' = d := Option.some.inj e
            obtain ⟨o, ho, hdt⟩ := z
            rw [e3] at ho
            have no : (ownCs scope (s2.heap.objs.size + 1)).lookup x = none := by
              cases eo : (ownCs scope (s2.heap.objs.size + 1)).lookup x with
              | none => rfl
              | some c0 =>
                rcases own_mem (PySem.mem_of_lookup eo) with q | q
                · have := S.cells _ q rfl
                  rw [n4] at this
                  cases this
                · cases q
            exact ⟨d, by show (cellsFrom (s2.heap.objs.size + 1 + 1) scope.names cl).lookup x = some d; rw [app, no]; exact hd, o, old _ _ ho, hdt⟩
  · rcases two e with ⟨_, ic, _⟩ | q
    · exact ⟨_, ic⟩
    · obtain ⟨v, o, ho, hdt⟩ := I.cell x c q
      exact ⟨v, o, old _ _ ho, hdt⟩
  · show upd H s2.heap.objs.size (.lst []) (s2.heap.objs.size + 1) = none
    rw [upd_ne (Nat.ne_of_gt (Nat.lt_succ_self _))]; exact hnC
  · show upd H s2.heap.objs.size (.lst []) c = none
    rcases two e with ⟨_, _, l⟩ | q
    · rw [upd_ne (Nat.ne_of_gt (Nat.lt_of_lt_of_le (Nat.lt_add_of_pos_right (by decide)) l))]
      exact I.hok.fresh (Nat.le_trans (Nat.le_add_right _ 2) l)
    · rw [upd_ne (Nat.ne_of_lt (cellLt q))]
      exact I.freeC x c q
  · exact I.hok.laid old (Nat.le_refl _) ⟨by show 0 ≤ sizeLine; exact Nat.zero_le _, [], 0, .nil, hD⟩
  · show (compStart0 mp σ).length = N.length
    unfold compStart0
    rw [List.length_map]; exact S.len

theorem comp_run {elt iter tg : Expr} {ifs : List Expr} {scope : Scope} {pos : Pos} {N : List Str} {mp : List (Option Nat)} {cl : List (Str × Addr)} {wi : TI} {g : Addr → Shared → Hp → List Addr → TG} {tt : Addr → Shared → Hp → List Addr → TT} {te : Addr → Shared → Hp → List Addr → TE}
    (hc : X.calm = true) (S : CompScopeC X N mp scope) (hcl : closes X.env.cells scope.names [] = some cl) (hi : PI X tg iter wi)
    (hg : ∀ C s2 H2 fp, PG (cxCC X N scope cl C s2 H2 fp) tg (g C s2 H2 fp)) (ht : ∀ C s2 H2 fp, PTL (cxCC X N scope cl C s2 H2 fp) ifs (tt C s2 H2 fp)) (he : ∀ C s2 H2 fp, PE (cxCC X N scope cl C s2 H2 fp) elt (te C s2 H2 fp))
    (hs : ∀ x, foldedSetIterable iter X.env x = pure x)
    {use : Option (Value → Sem Unit)} {PQ : Value → Shared → Prop} {pins : List (Addr × Obj)} {s : Shared} {σ : St} {H : Hp} {Q : VK} (I : Inv X pins σ H s) (h : tComp mp wi g tt te σ H Q)
    (fin : ∀ (H2 : Hp) (s2 : Shared) (fp : List Addr) (σ' : St) (H' : Hp) (s' : Shared), Inv X pins σ H2 s2 → (∀ b ∈ fp, FpOk X pins H2 b) → Inv (cxCC X N scope cl (s2.heap.objs.size + 1) s2 H2 fp) [] σ' H' s' → Q (.ref s2.heap.objs.size) H' →
      compPost (model X.prog X.w) X.A X.xe use PQ (.ref s2.heap.objs.size) (s2.heap.objs.size + 1) (.ok .next) s') :
    wpAny (model X.prog X.w) X.A (comprehension (.ListComp elt [⟨tg, iter, ifs, 0⟩] scope pos) scope X.env (firstIterPos [⟨tg, iter, ifs, 0⟩] pos) (newList []) (firstAsync [⟨tg, iter, ifs, 0⟩]) (firstIter [⟨tg, iter, ifs, 0⟩] X.env) use) PQ X.xe s := by
  refine wpAny_comprehension_free (use := use) rfl hs (closureFor_of hcl) S.kind S.names (thn (hi pins s σ H _ I h) fun v s1 h1 => thn h1 fun itv s2 h2 => ?_)
  obtain ⟨it, fp, tn, J, H2, e, I2, T, st2, f2, h3⟩ := h2
  subst e
  refine wpAny_newObj_type (newEnv_cells ?_)
  dsimp only
  have hn2 : H2 s2.heap.objs.size = none := I2.hok.fresh (Nat.le_refl _)
  generalize hH2 : s2.heap.push { cls := .type "list", dict := none, data := .seq ([] : List Value).toArray } = G2
  have hC : G2.objs.size = s2.heap.objs.size + 1 := by rw [← hH2, Heap.size_push]
  generalize hh1 : pushCells (G2.push PySem.W.emptyDict) scope.names = h₁
  have old1 : ∀ b o, G2.get? b = some o → h₁.get? b = some o := fun b o e => by rw [← hh1]; exact pushCells_keeps _ _ b o (Heap.get?_push_of_some _ e)
  have old : ∀ b o, s2.heap.get? b = some o → h₁.get? b = some o := fun b o e => old1 b o (hH2 ▸ Heap.get?_push_of_some _ e)
  have hD1 : h₁.get? s2.heap.objs.size = some { cls := .type "list", data := .seq ([] : List Value).toArray } := old1 _ _ (hH2 ▸ Heap.get?_push_size _ rfl)
  have hns₁ : h₁.Ns (s2.heap.objs.size + 1) (fun _ => none) := by
    have e1 : h₁.get? G2.objs.size = some PySem.W.emptyDict := by rw [← hh1]; exact pushCells_keeps _ _ _ _ (Heap.get?_push_size _ rfl)
    rw [hC] at e1
    exact ⟨_, #[], _, e1, rfl, fun e he => absurd he (by simp), fun _ => rfl⟩
  have cok : CellsOk h₁ (s2.heap.objs.size + 2) (ownCs scope (s2.heap.objs.size + 1)) := by
    have := cellsFrom_ok scope.names (G2.push PySem.W.emptyDict) (s2.heap.objs.size + 2) [] ⟨fun _ _ hm => (nomatch hm), List.Pairwise.nil⟩ (by rw [Heap.size_push, hC]; exact Nat.le_refl _)
    rw [Heap.size_push, hC, hh1] at this
    exact this
  obtain ⟨W, ⟨m0, w0⟩, turn⟩ := h3 s2.heap.objs.size hn2 (s2.heap.objs.size + 1) s2 fp
  have I4 := comp_invC (tk := s2.toks) I2 S hcl f2 (fun b hb => let ⟨o, e, _⟩ := T.obj _ _ st2 b hb; ⟨o, e⟩) old hD1 hns₁ cok
  have st4 : tn 0 h₁ := T.keep _ _ _ st2 fun b hb o e => old b o e
  have stat : ∀ {pl : List (Addr × Obj)} {H' : Hp}, (∀ b ∈ fp, H' b = none) → (∀ p ∈ pl, p.1 ∉ fp) → ∀ b ∈ fp, FpOk (cxCC X N scope cl (s2.heap.objs.size + 1) s2 H2 fp) pl H' b := fun {pl H'} hn hp b hb =>
    ⟨hn b hb, (I4.ok.exf b hb).1, I4.ok.exfs b hb, .inl hb, (I4.ok.exf b hb).2, fun p z q => hp p (by simpa [cxC, cxCC] using z) (by rw [q]; exact hb)⟩
  have fr0 : ∀ b ∈ fp, (upd H2 s2.heap.objs.size (.lst [])) b = none := fun b hb => by
    obtain ⟨o, e, _⟩ := T.obj _ _ st2 b hb
    rw [upd_ne (Nat.ne_of_lt (Heap.lt_size e))]
    exact (f2 b hb).1
  have loop : codeAny (model X.prog X.w) X.A (.compLoop (.ListComp elt [⟨tg, iter, ifs, 0⟩] scope pos) 0 (.ref it) (.ref s2.heap.objs.size) (compEnvC scope (cellsFrom (s2.heap.objs.size + 1 + 1) scope.names cl) (s2.heap.objs.size + 1) X.env))
      (compPost (model X.prog X.w) X.A X.xe use PQ (.ref s2.heap.objs.size) (s2.heap.objs.size + 1)) { s2 with heap := h₁, toks := s2.toks } := by
    refine compLoop_go (fun n s' => ∃ i σ' H', Inv (cxCC X N scope cl (s2.heap.objs.size + 1) s2 H2 fp) [] σ' H' s' ∧ tn i s'.heap ∧ (∀ b ∈ fp, H' b = none) ∧ W i n σ' H') ?_ m0 ⟨0, _, _, I4, st4, fr0, w0⟩
    rintro n s3 ⟨i, σ3, H3, I3, st3, fr3, w3⟩
    rcases turn i n σ3 H3 w3 with ⟨stop, qn⟩ | ⟨go, N', hN, step⟩
    · refine (thn (T.done (cxCC X N scope cl (s2.heap.objs.size + 1) s2 H2 fp) rfl rfl rfl hc i [] s3 σ3 H3 (fun _ _ => False) I3 (stat fr3 (fun _ z => nomatch z)) st3 stop) fun r s4 ⟨hr, I4'⟩ => ?_)
      subst hr
      exact fin H2 s2 fp _ _ _ I2 f2 I4' qn
    · refine (thn (T.item (cxCC X N scope cl (s2.heap.objs.size + 1) s2 H2 fp) rfl rfl rfl hc i [] s3 σ3 H3 (fun _ _ => False) I3 (stat fr3 (fun _ z => nomatch z)) st3 go) fun r s4 ⟨u, hr, h4⟩ => ?_)
      subst hr
      refine thn h4 fun _ s5 ⟨x, H5, I5, r5, y5, st5, fr5⟩ => ?_
      have I5' := I5.pinned (pins := []) (stat fr5 (fun _ z => nomatch z)) (T.obj _ _ st5)
      refine (thn (hg (s2.heap.objs.size + 1) s2 H2 fp _ s5 σ3 H5 x u _ I5' r5 (step x H5 y5)) fun _ s6 ⟨σ6, H6, I6, q6⟩ => ?_)
      refine (thn (ht (s2.heap.objs.size + 1) s2 H2 fp _ s6 σ6 H6 _ I6 q6) fun b s7 ⟨H7, I7, q7⟩ => ?_)
      have again : ∀ {σ7 : St} {H7 : Hp} {s7 : Shared}, Inv (cxCC X N scope cl (s2.heap.objs.size + 1) s2 H2 fp) ([] ++ pinsAt fp s5.heap) σ7 H7 s7 → N' σ7 H7 → ∃ m, m < n ∧ ∃ i σ' H', Inv (cxCC X N scope cl (s2.heap.objs.size + 1) s2 H2 fp) [] σ' H' s7 ∧ tn i s7.heap ∧ (∀ b ∈ fp, H' b = none) ∧ W i m σ' H' := fun {σ7 H7 s7} I7 n7 => by
        obtain ⟨m', hm, w7⟩ := hN σ7 H7 n7
        refine ⟨m', hm, i + 1, σ7, H7, I7.unpinned, T.keep _ _ _ st5 fun b hb o e => (I7.pin (b, o) (List.mem_append_right _ (List.mem_append_right _ (mem_pinsAt hb e)))).1, fun b hb => ?_, w7⟩
        obtain ⟨o, e, d⟩ := T.obj _ _ st5 b hb
        exact (I7.pin (b, o) (List.mem_append_right _ (List.mem_append_right _ (mem_pinsAt hb e)))).2.1
      cases b with
      | false =>
        rw [if_neg Bool.false_ne_true] at q7 ⊢
        exact again I7 q7
      | true =>
        rw [if_pos rfl] at q7 ⊢
        refine (thn (he (s2.heap.objs.size + 1) s2 H2 fp _ s7 σ6 H7 _ I7 q7) fun y s8 ⟨yv, H8, I8, ry, xs, hx, hz, n8⟩ => ?_)
        refine (thn (mt_append (X := cxCC X N scope cl (s2.heap.objs.size + 1) s2 H2 fp) _ s8 σ6 H8 (.ref s2.heap.objs.size) [yv] (.ref s2.heap.objs.size) [y] (fun _ H' => N' σ6 H') I8 rfl (.cons ry .nil) ⟨_, xs, yv, rfl, rfl, hx, hz, n8⟩) fun _ s9 ⟨_, H9, I9, _, n9⟩ => ?_)
        exact again I9 n9
  have goal := codeAny_compStart_list loop (T.self X.A 0 { s2 with heap := h₁, toks := s2.toks } _ _ st4 loop)
  rw [hC]
  exact goal

/-- behind the block: the state in the context around it; C is the block's own -/
theorem comp_back {N : List Str} {scope : Scope} {cl : List (Str × Addr)} {pins : List (Addr × Obj)} {σ σ' : St} {H2 H' : Hp} {s2 s' : Shared} {fp : List Addr} {h'' : Heap} (I2 : Inv X pins σ H2 s2) (f2 : ∀ b ∈ fp, FpOk X pins H2 b) (J' : Inv (cxCC X N scope cl (s2.heap.objs.size + 1) s2 H2 fp) [] σ' H' s')
    (keepC : ∀ b o, b ≠ s2.heap.objs.size + 1 → s'.heap.get? b = some o → h''.get? b = some o) : Inv X pins σ H' { s' with heap := h'' } := by
  have u0 := J'.base
  have neC : ∀ b o, s2.heap.get? b = some o → b ≠ s2.heap.objs.size + 1 := fun b o e => Nat.ne_of_lt (Nat.lt_succ_of_lt (Heap.lt_size e))
  have u : Un (frs X.stack) fp H2 H' s2.heap h'' := ⟨fun b o e n hb hx => keepC b o (neC b o e) (u0.keep b o e n hb hx), fun b o e n hb hx => by
      obtain ⟨sl, e1⟩ := u0.slot b o e n hb hx
      exact ⟨sl, keepC b _ (neC b o e) e1⟩, u0.free, fun b o e hx => by
      obtain ⟨o', e1⟩ := u0.there b o e hx
      exact ⟨o', keepC b o' (neC b o e) e1⟩, u0.tups, u0.frzs, u0.tbls⟩
  have freeC : H' (s2.heap.objs.size + 1) = none := J'.free
  have hok : HOk X.prog X.w H' h'' := fun b o e => (J'.hok b o e).stay (fun c v hcc r => keepC c v (by
      intro z
      rcases hcc with q1 | q1
      · rw [← q1, z, freeC] at e; cases e
      · rw [z, freeC] at q1; cases q1) r) (fun _ z => z) fun _ _ z => z
  exact I2.call' (s' := { s' with heap := h'' }) J'.os u hok J'.bare fun b hb => ⟨(f2 b hb).2.2.2.1, (f2 b hb).2.1, (f2 b hb).2.2.2.2.1, (f2 b hb).2.2.2.2.2⟩
/-- x = [..] on one line: the name is bound ahead of the block's end -/
theorem ps_setC {i : Nat} {x : Str} {pos' spos : Pos} {elt iter tg : Expr} {ifs : List Expr} {scope : Scope} {pos : Pos} {N : List Str} {mp : List (Option Nat)} {cl : List (Str × Addr)} {wi : TI} {g : Addr → Shared → Hp → List Addr → TG} {tt : Addr → Shared → Hp → List Addr → TT} {te : Addr → Shared → Hp → List Addr → TE}
    (hN : X.N.Nodup) (hx : X.N[i]? = some x) (hl : Loc X.env.scope x) (hc : X.calm = true) (S : CompScopeC X N mp scope) (hcl : closes X.env.cells scope.names [] = some cl) (hi : PI X tg iter wi)
    (hg : ∀ C s2 H2 fp, PG (cxCC X N scope cl C s2 H2 fp) tg (g C s2 H2 fp)) (ht : ∀ C s2 H2 fp, PTL (cxCC X N scope cl C s2 H2 fp) ifs (tt C s2 H2 fp)) (he : ∀ C s2 H2 fp, PE (cxCC X N scope cl C s2 H2 fp) elt (te C s2 H2 fp))
    (hs : ∀ x, foldedSetIterable iter X.env x = pure x := by intro _; rfl)
    (hsw : swapsWith (.ListComp elt [⟨tg, iter, ifs, 0⟩] scope pos) (some (.Name x pos')) spos.line X.env = pure true := by rfl)
    (hf : X.fn x = true ∨ X.env.scope.names.lookup x = some .local := by first | exact .inl rfl | exact .inr rfl | assumption) :
    PS X (.Assign [.Name x pos'] (.ListComp elt [⟨tg, iter, ifs, 0⟩] scope pos) spos) (fun D σ H => tComp mp wi g tt te σ H fun v H1 => D.nx (σ.set i (some v)) H1) := by
  intro pins s σ H D I h
  rw [exec_Assign_Name_used _ _ _ _ hsw]
  refine wpAny_bind (wpAny_standAt ?_)
  rw [arm_evalThenUse_ListComp]
  refine wpAny_bind (wpAny_bind (thn (comp_run hc S hcl hi hg ht he hs (PQ := fun _ s' => SP X pins D .next s') I h fun H2 s2 fp σ' H' s' I2 f2 J' q => ?_) fun _ _ z => wpAny_pure (wpAny_pure z)))
  · obtain ⟨m, ⟨oC, es, ep, ho, r⟩, _⟩ := id J'.loc
    have I3 : Inv X pins σ H' s' := comp_back (h'' := s'.heap) I2 f2 J' fun b o _ e => e
    have nL : s2.heap.objs.size + 1 ≠ X.env.locals := Nat.ne_of_gt (Nat.lt_of_lt_of_le I2.lt (Nat.le_succ _))
    have nf : s2.heap.objs.size + 1 ∉ X.fs := I2.nofs (Nat.le_succ _)
    have fp := Inv.fpOk (H' := H') I2 (Nat.le_succ _) (b := s2.heap.objs.size + 1) J'.free
    have I4 : Inv X (pins ++ [(s2.heap.objs.size + 1, oC)]) σ H' s' := I3.pins_of fun p hp => by
      rcases List.mem_append.mp hp with z | z
      · exact I3.pin p (List.mem_append_right _ z)
      · have e : p = (s2.heap.objs.size + 1, oC) := by simpa using z
        subst e
        exact ⟨ho, J'.free, nL, nf, fun v z => by rw [r.1] at z; cases z⟩
    show wpAny _ _ (assign (.Name x pos') X.env _) _ _ _
    refine wpAny_bind (wpAny_standAt (wpAny_bindName (store_ok I4 hN hx hl (show RelV (.ref s2.heap.objs.size) (.ref s2.heap.objs.size) from rfl) (fun s5 I5 => ?_) hf)))
    obtain ⟨hC, _⟩ := I5.pin (s2.heap.objs.size + 1, oC) (List.mem_append_right _ (List.mem_append_right _ (by simp)))
    refine ⟨m, ⟨oC, es, ep, hC, r⟩, fun h' sb => ⟨_, H', ?_, q⟩⟩
    have I6 : Inv X pins (σ.set i (some (.ref s2.heap.objs.size))) H' s5 := I5.pins_of fun p hp => I5.pin p (List.mem_append_right _ (List.mem_append_left _ hp))
    exact I6.turned (t' := s5.toks) (it := s2.heap.objs.size + 1) (fun b o hb e => sb.extBut b o hb e) fp.1 fp.2.1 fp.2.2.2.1 fp.2.2.2.2.1 fp.2.2.2.2.2

theorem csC_of {N : List Str} {scope : Scope} (mp : List (Option Nat)) (h1 : scope.kind = .function) (h2 : ∀ y ∈ scope.names, y.2 = .cell → scope.names.lookup y.1 = some .cell) (h3 : ∀ y ∈ scope.names, y.2 = .local → scope.names.lookup y.1 = some .local) (h4 : mp.length = N.length)
    (h5 : outChk X.N X.env.scope.names N scope.names mp 0 = true) : CompScopeC X N mp scope :=
  ⟨h1, h2, h3, h4, fun i j e => by
    obtain ⟨x, a, b, c, d⟩ := outChk_ok h5 i j e
    exact ⟨x, by simpa using a, b, c, d⟩⟩
end
end L2

set_option Elab.async false
set_option linter.all false
set_option maxRecDepth 100000
set_option maxHeartbeats 1000000
namespace L2
open PySem PySem.Spec PyProof.Rows
theorem pe_xf {X : Cx} {K : PySem.W.Frag} {e : Expr} {f : Str} {pos : Pos} {ta : TE} (he : PE X e ta) (hK : X.K = K := by rfl) (hb : attributeBase e f X.env (eval e X.env) = eval e X.env := by rfl) : PE X (.Attribute e f pos) (tXFld K ta f) := hK ▸ pe_xfld he hb
section
variable {P : Program} {w : World} {K : PySem.W.Frag} {mg : Str → Option Value} {base : Heap}
/-- a def that may raise, where it does not -/
theorem FnOk.hush {f : Addr} {fd : FuncData} {ps : List Str} {k : Nat} {sp sp' : Sp} (F : FnOk P w K mg base (CXF P w) k f fd ps sp) (h : ∀ vs H Q E, sp' vs H Q E → sp vs H Q E0) : FnOk P w K mg base CX0 k f fd ps sp' :=
  ⟨fun vs H Q E q => F.len vs H Q E0 (h _ _ _ _ q), fun A outer s H args us vs Q E hr he hb hv hs => codeAny_mono (F.run A outer s H args us vs Q E0 hr he hb hv (h _ _ _ _ hs)) fun r s' z => by
    cases r with
    | error e =>
      obtain ⟨_, _, _, _, _, _, _, _, _, _, _, _, _, _, _, _, _, q⟩ := z
      exact q.elim
    | ok fl => cases fl <;> exact z⟩
end
end L2

set_option Elab.async false
set_option linter.all false
set_option maxRecDepth 100000
namespace Law
open PySem L2

def Keep (S : List Addr) (H H' : Hp) : Prop := ∀ b o, H b = some o → b ∉ S → H' b = some o
theorem Keep.trans {S : List Addr} {H H1 H2 : Hp} (a : Keep S H H1) (b : Keep S H1 H2) : Keep S H H2 := fun c o h n => b c o (a c o h n) n
theorem Keep.same {S : List Addr} {H H' : Hp} (a : Same H H') : Keep S H H' := fun b o h _ => a b o h
theorem Keep.new {S : List Addr} {H : Hp} {p : Addr} {o : HO} (h : H p = none) : Keep S H (upd H p o) := fun b u q _ => by rw [upd_ne (ne_of_none q h)]; exact q
theorem Keep.upd {S : List Addr} {H : Hp} {p : Addr} {o : HO} (h : p ∈ S) : Keep S H (upd H p o) := fun b u q n => by
  have hb : b ≠ p := fun e => n (by rw [e]; exact h)
  rw [upd_ne hb]; exact q
theorem Same.new {H : Hp} {p : Addr} {o : HO} (h : H p = none) : Same H (L2.upd H p o) := fun b u q => by rw [upd_ne (ne_of_none q h)]; exact q

/-- tuples stay -/
def KT (H H' : Hp) : Prop := ∀ p xs, H p = some (.tup xs) → H' p = some (.tup xs)
theorem KT.trans {H H1 H2 : Hp} (a : KT H H1) (b : KT H1 H2) : KT H H2 := fun p xs h => b p xs (a p xs h)
theorem KT.same {H H' : Hp} (a : Same H H') : KT H H' := fun p xs h => a p _ h
theorem KT.upd {H : Hp} {p : Addr} {o : HO} {ys : List V} (h : H p = some (.lst ys)) : KT H (L2.upd H p o) := fun b xs q => by
  rw [upd_ne]; · exact q
  · intro e; subst e; rw [h] at q; cases q
theorem KT.new {H : Hp} {p : Addr} {o : HO} (h : H p = none) : KT H (L2.upd H p o) := KT.same (Same.new h)

/-! the deck of drawn cells -/
def DeckAt (H : Hp) (d c : Addr) : Prop := ∃ (cells : List Int) (a seed : Int), H d = some (.lst [.ref c, .int a, .int seed]) ∧ H c = some (.lst (cells.map V.int)) ∧ 0 < cells.length
theorem DeckAt.kt {H H' : Hp} {d c : Addr} (D : DeckAt H d c) (k : Keep [d, c] H H') : KT H H' := by
  obtain ⟨cells, a, seed, h1, h2, _⟩ := D
  intro p xs h
  refine k p _ h ?_
  intro m
  rcases List.mem_cons.mp m with e | m
  · subst e; rw [h1] at h; cases h
  · rcases List.mem_cons.mp m with e | m
    · subst e; rw [h2] at h; cases h
    · cases m
theorem DeckAt.ne {H : Hp} {d c : Addr} (D : DeckAt H d c) : d ≠ c := by
  obtain ⟨cells, a, seed, h1, h2, h3⟩ := D
  intro e; subst e; rw [h1] at h2
  cases cells with
  | nil => cases h3
  | cons n r => cases h2
theorem DeckAt.same {H H' : Hp} {d c : Addr} (D : DeckAt H d c) (s : Same H H') : DeckAt H' d c := by
  obtain ⟨cells, a, seed, h1, h2, h3⟩ := D
  exact ⟨cells, a, seed, s _ _ h1, s _ _ h2, h3⟩
theorem DeckAt.new {H : Hp} {d c p : Addr} {o : HO} (D : DeckAt H d c) (h : H p = none) : DeckAt (L2.upd H p o) d c := D.same (Same.new h)

theorem DeckAt.nin {H : Hp} {d c p : Addr} (D : DeckAt H d c) (h : H p = none) : p ∉ [d, c] := by
  obtain ⟨cells, a, seed, h1, h2, _⟩ := D
  intro m
  rcases List.mem_cons.mp m with e | m
  · subst e; rw [h1] at h; cases h
  · rcases List.mem_cons.mp m with e | m
    · subst e; rw [h2] at h; cases h
    · cases m
theorem atI_mem {α : Type} {xs : List α} {r : Int} (h0 : 0 ≤ r) (h1 : r < (xs.length : Int)) : ∃ v, atI xs r = some v ∧ v ∈ xs := by
  have hl : r.toNat < xs.length := by omega
  have e : r = ((r.toNat : Nat) : Int) := by omega
  have h : atI xs ((r.toNat : Nat) : Int) = some xs[r.toNat] := atI_nat (List.getElem?_eq_getElem hl)
  rw [← e] at h
  exact ⟨xs[r.toNat], h, List.getElem_mem hl⟩
theorem ixN_of {n : Nat} {k : Int} (h0 : 0 ≤ k) (h1 : k < (n : Int)) : ixN n k = some k.toNat := by
  unfold ixN
  rw [if_pos h0, if_pos h1]
theorem cut_all {xs : List V} {k : Nat} (h : xs.length ≤ k) : cutV xs none (some (k : Int)) = xs := by
  unfold cutV
  rw [HT.sIx_none, HT.sIx_nat, List.drop_zero]
  exact List.take_of_length_le (by omega)

theorem set_int {cells : List Int} {j : Nat} {z : Int} : (cells.map V.int).set j (V.int z) = (cells.set j z).map V.int := by rw [List.map_set]
def spTake : Sp := fun vs H Q _ => ∃ (d c : Addr) (many : Int), vs = [.ref d, .int many] ∧ DeckAt H d c ∧ 0 < many ∧ many < 1073741824 ∧
  ∀ (r : Int) (H' : Hp), 0 ≤ r → r < many → Keep [d, c] H H' → DeckAt H' d c → Q (.int r) H'
/-- an int between 1 and top is drawn -/
def spDraw (top : Int) : Sp := fun vs H Q _ => ∃ (d c : Addr), vs = [.ref d] ∧ DeckAt H d c ∧
  ∀ (r : Int) (H' : Hp), 1 ≤ r → r ≤ top → Keep [d, c] H H' → DeckAt H' d c → Q (.int r) H'
def spDeck (K : PySem.W.Frag) : Sp := fun vs H Q _ => ∃ (a : Addr) (ns : List Int), vs = [.ref a] ∧ SqL K H a (ns.map V.int) ∧ ns.length ≤ 63 ∧
  ∀ (d c : Addr) (H' : Hp), Same H H' → H d = none → H c = none → DeckAt H' d c → Q (.ref d) H'

/-- the names of Python's own that the text asks -/
structure Blt (mg : Str → Option Value) : Prop where
  len : mg "len" = none
  sum : mg "sum" = none
  range : mg "range" = none
  isinstance : mg "isinstance" = none
  int : mg "int" = none
  str : mg "str" = none
  bool : mg "bool" = none
  tuple : mg "tuple" = none
  zip : mg "zip" = none
end Law

set_option Elab.async false
set_option linter.all false
set_option maxRecDepth 100000
namespace Law
open PySem L2

def okWord (w : Str) : Prop := w = "plus" ∨ w = "less" ∨ w = "times" ∨ w = "share"
instance okWordDec (w : Str) : Decidable (okWord w) := by unfold okWord; infer_instance
inductive Way where
  | num (n : Int)
  | op (w : Str) (a b : Way)
def Way.size : Way → Nat
  | .num _ => 1
  | .op _ a b => a.size + b.size
def Way.ht : Way → Nat
  | .num _ => 0
  | .op _ a b => max a.ht b.ht + 1
def Way.nodes : Way → Nat
  | .num _ => 1
  | .op _ a b => a.nodes + b.nodes + 1
def Way.ok (m : Int) : Way → Prop
  | .num n => 1 ≤ n ∧ n ≤ m
  | .op w a b => okWord w ∧ a.ok m ∧ b.ok m
theorem Way.size_pos (x : Way) : 1 ≤ x.size := by
  induction x with
  | num n => exact Nat.le_refl _
  | op w a b iha ihb => show 1 ≤ a.size + b.size; omega
theorem Way.ht_lt (x : Way) : x.ht < x.size := by
  induction x with
  | num n => exact Nat.le_refl _
  | op w a b iha ihb =>
    have := a.size_pos; have := b.size_pos
    show max a.ht b.ht + 1 < a.size + b.size; omega
theorem Way.nodes_eq (x : Way) : x.nodes + 1 = 2 * x.size := by
  induction x with
  | num n => rfl
  | op w a b iha ihb => show a.nodes + b.nodes + 1 + 1 = 2 * (a.size + b.size); omega
/-- a word by two numbers: the number, or the word where there is none -/
def byE (w : Str) (a b : Int) : Sum Str Int :=
  if w = "plus" then .inr (a + b) else if w = "times" then .inr (a * b) else if w = "less" then (if b < a then .inr (a - b) else .inl w) else (if a % b = 0 then .inr (a / b) else .inl w)
def worthE : Way → Sum Str Int
  | .num n => .inr n
  | .op w a b => match worthE a with
    | .inl e => .inl e
    | .inr x => match worthE b with
      | .inl e => .inl e
      | .inr y => byE w x y
theorem worthE_op (w : Str) (a b : Way) : worthE (.op w a b) = match worthE a with
    | .inl e => .inl e
    | .inr x => match worthE b with
      | .inl e => .inl e
      | .inr y => byE w x y := rfl
def resV : Sum Str Int → V
  | .inl e => .str e
  | .inr n => .int n

theorem pow_ge {m : Int} (hm : 2 ≤ m) {k : Nat} (hk : 1 ≤ k) : 2 ≤ m ^ k := by
  induction k with
  | zero => omega
  | succ k ih =>
    rw [Int.pow_succ]
    rcases Nat.eq_zero_or_pos k with h | h
    · subst h; simpa using hm
    · have := ih h
      have h2 : m ^ k * 1 ≤ m ^ k * m := Int.mul_le_mul_of_nonneg_left (by omega) (by omega)
      omega
theorem byE_bound {w : Str} {a b n X Y : Int} (ha : 1 ≤ a) (hb : 1 ≤ b) (hx : a ≤ X) (hy : b ≤ Y) (X2 : 2 ≤ X) (Y2 : 2 ≤ Y) (h : byE w a b = .inr n) : 1 ≤ n ∧ n ≤ X * Y := by
  have xy : X + Y ≤ X * Y := by
    have : 0 ≤ (X - 1) * (Y - 1) - 1 := by
      have : 1 * 1 ≤ (X - 1) * (Y - 1) := Int.mul_le_mul (by omega) (by omega) (by omega) (by omega)
      omega
    have e : (X - 1) * (Y - 1) = X * Y - X - Y + 1 := by rw [Int.sub_mul, Int.mul_sub, Int.mul_one, Int.one_mul]; omega
    omega
  unfold byE at h
  split at h
  · cases h; omega
  split at h
  · cases h
    have h1 : a * b ≤ X * Y := Int.mul_le_mul hx hy (by omega) (by omega)
    have h2 : 1 * 1 ≤ a * b := Int.mul_le_mul ha hb (by omega) (by omega)
    omega
  split at h
  · split at h
    · cases h; omega
    · cases h
  · split at h
    · rename_i e
      cases h
      have h1 := Int.emod_add_mul_ediv a b
      rw [e] at h1
      have h2 : a / b ≤ a := Int.ediv_le_self _ (by omega)
      have h3 : 0 ≤ a / b := Int.ediv_nonneg (by omega) (by omega)
      have h4 : a / b ≠ 0 := fun z => by rw [z] at h1; omega
      omega
    · cases h
theorem worth_bound {m : Int} (hm : 2 ≤ m) : ∀ {x : Way} {n : Int}, x.ok m → worthE x = .inr n → 1 ≤ n ∧ n ≤ m ^ x.size := by
  intro x
  induction x with
  | num k => intro n ⟨h1, h2⟩ e; cases e; exact ⟨h1, by show k ≤ m ^ 1; rw [Int.pow_succ, Int.pow_zero, Int.one_mul]; exact h2⟩
  | op w a b iha ihb =>
    intro n ⟨hw, h1, h2⟩ e
    rw [worthE_op] at e
    split at e
    · cases e
    · rename_i x ex
      split at e
      · cases e
      · rename_i y ey
        obtain ⟨a1, a2⟩ := iha h1 ex
        obtain ⟨b1, b2⟩ := ihb h2 ey
        have := byE_bound a1 b1 a2 b2 (pow_ge hm a.size_pos) (pow_ge hm b.size_pos) e
        rw [show (Way.op w a b).size = a.size + b.size from rfl, Int.pow_add]
        exact this

/-- of a size that the machine reckons with -/
def Way.fit (x : Way) : Prop := ∃ m : Int, 2 ≤ m ∧ x.ok m ∧ m ^ x.size < 2 ^ 4000
theorem pow_le_pow {m : Int} (hm : 2 ≤ m) {i j : Nat} (h : i ≤ j) : m ^ i ≤ m ^ j := by
  induction h with
  | refl => exact Int.le_refl _
  | step h ih =>
    rename_i k
    rw [Int.pow_succ]
    have : 0 ≤ m ^ k := Int.pow_nonneg (by omega)
    have h2 : m ^ k * 1 ≤ m ^ k * m := Int.mul_le_mul_of_nonneg_left (by omega) this
    omega
theorem Way.fit.sub {w : Str} {a b : Way} (h : (Way.op w a b).fit) : okWord w ∧ a.fit ∧ b.fit := by
  obtain ⟨m, h1, ⟨h2, h3, h4⟩, h5⟩ := h
  have e : (Way.op w a b).size = a.size + b.size := rfl
  have p1 := pow_le_pow h1 (show a.size ≤ (Way.op w a b).size by omega)
  have p2 := pow_le_pow h1 (show b.size ≤ (Way.op w a b).size by omega)
  exact ⟨h2, ⟨m, h1, h3, by omega⟩, ⟨m, h1, h4, by omega⟩⟩
theorem Way.fit.worth {x : Way} (h : x.fit) {n : Int} (e : worthE x = .inr n) : 1 ≤ n ∧ n < 2 ^ 4000 := by
  obtain ⟨m, h1, h2, h5⟩ := h
  have := worth_bound h1 h2 e
  omega
theorem fit_of {x : Way} (h : x.ok 1000000) (hs : x.size ≤ 100) : x.fit := by
  refine ⟨1000000, by decide, h, ?_⟩
  have := pow_le_pow (m := 1000000) (by decide) hs
  have h2 : (1000000 : Int) ^ 100 < 2 ^ 4000 := by decide +kernel
  omega

/-- the law's own reckoning of a word -/
def spBy : Sp := fun vs H Q _ => ∃ (wd : Str) (a b : Int), vs = [.str wd, .int a, .int b] ∧ okWord wd ∧ 1 ≤ a ∧ a < 2 ^ 4000 ∧ 1 ≤ b ∧ b < 2 ^ 4000 ∧ ∀ H', Same H H' → Q (resV (byE wd a b)) H'
/-! in the heap -/
inductive WayIn (H : Hp) : V → Way → Prop where
  | num (n : Int) : WayIn H (.int n) (.num n)
  | op {p : Addr} {w : Str} {x y : V} {a b : Way} (h : H p = some (.tup [.str w, x, y])) (ha : WayIn H x a) (hb : WayIn H y b) : WayIn H (.ref p) (.op w a b)
theorem WayIn.kt {H H' : Hp} {v : V} {x : Way} (h : WayIn H v x) (k : KT H H') : WayIn H' v x := by
  induction h with
  | num n => exact .num n
  | op h ha hb iha ihb => exact .op (k _ _ h) iha ihb

/-! the steps of a way -/
def post : Way → List V
  | .num n => [.int n]
  | .op w a b => post a ++ post b ++ [.str w]
theorem post_len (x : Way) : (post x).length = x.nodes := by
  induction x with
  | num n => rfl
  | op w a b iha ihb => simp only [post, List.length_append, iha, ihb, Way.nodes, List.length_cons, List.length_nil]

inductive Out where
  | bad
  | no (w : Str)
  | val (st : List Int)
def stepsRun : List V → List Int → Out
  | [], st => .val st
  | .int n :: r, st => stepsRun r (n :: st)
  | .str w :: r, b :: a :: st => if okWord w ∧ 1 ≤ a ∧ a < 2 ^ 4000 ∧ 1 ≤ b ∧ b < 2 ^ 4000 then (match byE w a b with
    | .inr c => stepsRun r (c :: st)
    | .inl e => .no e) else .bad
  | _, _ => .bad
theorem run_str (w : Str) (r : List V) (a b : Int) (st : List Int) : stepsRun (.str w :: r) (b :: a :: st) = if okWord w ∧ 1 ≤ a ∧ a < 2 ^ 4000 ∧ 1 ≤ b ∧ b < 2 ^ 4000 then (match byE w a b with
    | .inr c => stepsRun r (c :: st)
    | .inl e => .no e) else .bad := by rw [stepsRun]
theorem run_int (n : Int) (r : List V) (st : List Int) : stepsRun (.int n :: r) st = stepsRun r (n :: st) := by rw [stepsRun]
theorem run_post {x : Way} (hx : x.fit) : ∀ (r : List V) (st : List Int), stepsRun (post x ++ r) st = match worthE x with
    | .inr n => stepsRun r (n :: st)
    | .inl e => .no e := by
  induction x with
  | num n => intro r st; rfl
  | op w a b iha ihb =>
    intro r st
    obtain ⟨hw, fa, fb⟩ := hx.sub
    rw [post, List.append_assoc, List.append_assoc, iha fa]
    rw [worthE_op]
    cases ea : worthE a with
    | inl e => rfl
    | inr n =>
      dsimp only
      rw [ihb fb]
      cases eb : worthE b with
      | inl e => rfl
      | inr k =>
        dsimp only
        have h1 := fa.worth ea
        have h2 := fb.worth eb
        show stepsRun (.str w :: r) (k :: n :: st) = _
        rw [run_str, if_pos ⟨hw, h1.1, h1.2, h2.1, h2.2⟩]

/-! promises of the defs -/
def spWorth (n : Nat) : Sp := fun vs H Q _ => ∃ (v : V) (x : Way), vs = [v] ∧ WayIn H v x ∧ x.fit ∧ x.ht < n ∧ ∀ H', Same H H' → Q (resV (worthE x)) H'
def spGood (n : Nat) : Sp := fun vs H Q _ => ∃ (d c : Addr) (many : Int), vs = [.ref d, .int many] ∧ DeckAt H d c ∧ 1 ≤ many ∧ many ≤ 8 ∧ many ≤ (n : Int) ∧
  ∀ (v : V) (x : Way) (r : Int) (H' : Hp), WayIn H' v x → x.ok 1000000 → (x.size : Int) = many → worthE x = .inr r → Keep [d, c] H H' → DeckAt H' d c → Q v H'
def spAny (n : Nat) : Sp := fun vs H Q _ => ∃ (d c : Addr) (many : Int), vs = [.ref d, .int many] ∧ DeckAt H d c ∧ 1 ≤ many ∧ many ≤ 8 ∧ many ≤ (n : Int) ∧
  ∀ (v : V) (x : Way) (H' : Hp), WayIn H' v x → x.ok 1000000 → (x.size : Int) = many → Keep [d, c] H H' → DeckAt H' d c → Q v H'
def spSteps : Sp := fun vs H Q _ => ∃ (v : V) (x : Way), vs = [v] ∧ WayIn H v x ∧ x.nodes ≤ 1000 ∧ ∀ (r : Addr) (H' : Hp), Same H H' → H' r = some (.lst (post x)) → Q (.ref r) H'
def spWorthOf : Sp := fun vs H Q _ => ∃ (v : V) (x : Way) (n : Int), vs = [v] ∧ WayIn H v x ∧ x.fit ∧ x.nodes ≤ 1000 ∧ worthE x = .inr n ∧ ∀ H', Same H H' → Q (.int n) H'
/-- the law: a list of at most 63 ints is handed in, True comes out -/
def spLaw (K : PySem.W.Frag) : Sp := fun vs H Q _ => ∃ (a : Addr) (ns : List Int), vs = [.ref a] ∧ SqL K H a (ns.map V.int) ∧ ns.length ≤ 63 ∧ ∀ H', Q (.bl true) H'
theorem mkDef {P : Program} {w : World} {K : PySem.W.Frag} {mg : Str → Option Value} {base : Heap} {CX : CXT} {k : Nat} {x : Str} {sp : Sp} {f : Addr} {fd : FuncData} {ps : List Str} (a : FnOk P w K mg base CX k f fd ps sp) (b : Binds K fd ps []) (c : mg x = some (.ref f)) (d : PySem.W.keepIn K (.ref f) = true) : Def P w K mg base CX k x sp := ⟨f, fd, ps, a, b, c, d⟩

def emit : Way → List V
  | .num n => [.int n]
  | .op w a b => .str w :: (emit b ++ emit a)
theorem emit_rev (x : Way) : (emit x).reverse = post x := by
  induction x with
  | num n => rfl
  | op w a b iha ihb => rw [emit, List.reverse_cons, List.reverse_append, iha, ihb, post]
theorem emit_len (x : Way) : (emit x).length = x.nodes := by rw [← post_len, ← emit_rev, List.length_reverse]
def sumNodes (ws : List Way) : Nat := (ws.map Way.nodes).sum
theorem emits_len (ws : List Way) : (ws.flatMap emit).length = sumNodes ws := by
  induction ws with
  | nil => rfl
  | cons a r ih => rw [List.flatMap_cons, List.length_append, emit_len, ih]; simp [sumNodes]
theorem nodes_pos (x : Way) : 1 ≤ x.nodes := by cases x <;> simp [Way.nodes]
theorem len_le_nodes (ws : List Way) : ws.length ≤ sumNodes ws := by
  induction ws with
  | nil => exact Nat.le_refl _
  | cons a r ih =>
    have := nodes_pos a
    have e : sumNodes (a :: r) = a.nodes + sumNodes r := by simp [sumNodes]
    rw [e, List.length_cons]; omega

def Way.deeds : Way → Nat
  | .num _ => 0
  | .op _ a b => a.deeds + b.deeds + 1
def Way.nums : Way → List Int
  | .num n => [n]
  | .op _ a b => a.nums ++ b.nums
theorem Way.nums_len (x : Way) : x.nums.length = x.size := by
  induction x with
  | num n => rfl
  | op w a b iha ihb => rw [Way.nums, List.length_append, iha, ihb]; rfl
theorem Way.deeds_lt (x : Way) : x.deeds + 1 = x.size := by
  induction x with
  | num n => rfl
  | op w a b iha ihb => show a.deeds + b.deeds + 1 + 1 = a.size + b.size; omega
def isS : V → Bool
  | .str _ => true
  | _ => false
theorem post_words (x : Way) : ((post x).filter isS).length = x.deeds := by
  induction x with
  | num n => rfl
  | op w a b iha ihb =>
    rw [post, List.filter_append, List.filter_append, List.length_append, List.length_append, iha, ihb]
    rfl
theorem post_nums (x : Way) : (post x).filter (fun v => !isS v) = x.nums.map V.int := by
  induction x with
  | num n => rfl
  | op w a b iha ihb =>
    rw [post, List.filter_append, List.filter_append, iha, ihb, Way.nums, List.map_append]
    show _ ++ [] = _
    rw [List.append_nil]
theorem post_kind {x : Way} : ∀ {v : V}, v ∈ post x → (∃ n, v = .int n) ∨ ∃ w, v = .str w := by
  induction x with
  | num n => intro v h; exact .inl ⟨n, by simpa [post] using h⟩
  | op w a b iha ihb =>
    intro v h
    rw [post] at h
    rcases List.mem_append.mp h with h | h
    · rcases List.mem_append.mp h with h | h
      · exact iha h
      · exact ihb h
    · exact .inr ⟨w, by simpa using h⟩
theorem take_filter {p : V → Bool} {xs : List V} {i : Nat} {x : V} (h : xs[i]? = some x) : (xs.take (i + 1)).filter p = (xs.take i).filter p ++ (if p x then [x] else []) := by
  rw [List.take_add_one, h, List.filter_append]
  congr 1
  cases e : p x <;> simp [Option.toList, List.filter, e]
def spDeeds : Sp := fun vs H Q _ => ∃ (v : V) (x : Way), vs = [v] ∧ WayIn H v x ∧ x.nodes ≤ 1000 ∧ ∀ H', Same H H' → Q (.int x.deeds) H'
def spNumbers : Sp := fun vs H Q _ => ∃ (v : V) (x : Way), vs = [v] ∧ WayIn H v x ∧ x.nodes ≤ 1000 ∧ ∀ (t : Addr) (H' : Hp), Same H H' → H' t = some (.tup (x.nums.map V.int)) → Q (.ref t) H'
end Law

set_option Elab.async false
set_option linter.all false
set_option maxRecDepth 100000
namespace L2
open PySem PySem.Spec PyProof.Rows
/-- o[i] = .., any i (a slice, too) -/
theorem pg_subA {X : Cx} {pos : Pos} {o i : Expr} {to ti : TE} {t : TSet} (ho : PE X o to) (hi : PE X i ti) (hs : PSet X t) : PG X (.Subscript o i pos) (gSub to ti t) := by
  intro pins s σ H v u Q I r h
  refine PySem.W.kas_sub (thn (ho pins s σ H _ I h) fun ov s1 ⟨x, H1, I1, r1, q1⟩ => thn (hi pins s1 σ H1 _ I1 q1) fun iv s2 ⟨y, H2, I2, r2, q2⟩ => thn (hs pins s2 σ H2 x y v ov iv u _ I2 r1 r2 r q2) fun _ s3 ⟨H3, I3, q3⟩ => ⟨σ, H3, I3, q3⟩)
end L2
namespace Law
open PySem L2 PySem.NumText PyProof.Rows

/-! texts of ways -/
def mkS (l : List Nat) : Str := ⟨l.toArray⟩
theorem cs_mkS (l : List Nat) : cs (mkS l) = l := by show l.toArray.toList = l; simp
theorem mkS_cs (x : Str) : mkS (cs x) = x := str_ext (cs_mkS _)
theorem mkS_eq {x : Str} {l : List Nat} (h : cs x = l) : x = mkS l := by rw [← h, mkS_cs]
theorem len_mkS (l : List Nat) : (mkS l).length = l.length := by rw [← cs_len, cs_mkS]
def isF (c : Nat) : Bool := decide (c ∈ cs ("0123456789" : Str))
theorem isF_iff (c : Nat) : isF c = true ↔ 48 ≤ c ∧ c ≤ 57 := by
  unfold isF
  rw [decide_eq_true_iff, show cs ("0123456789" : Str) = List.range' 48 10 by decide +kernel, List.mem_range'_1]
  exact ⟨fun h => ⟨h.1, Nat.le_of_lt_succ h.2⟩, fun h => ⟨h.1, Nat.lt_succ_of_le h.2⟩⟩
/-- a number's figures -/
def dig (n : Int) : List Nat := cs (Str.ofString (toString n))
def topN : Int := 10 ^ 63
theorem dig_nat (m : Nat) : dig (m : Int) = (Nat.toDigits 10 m).map Char.toNat := PySem.W.KIN.signs_num m
theorem dig_head : ∀ m : Nat, 1 ≤ m → ∃ c r, (Nat.toDigits 10 m).map Char.toNat = c :: r ∧ c ≠ 48 := by
  intro m
  induction m using Nat.strongRecOn with
  | _ m ih =>
    intro h1
    by_cases h : m < 10
    · rw [Nat.toDigits_of_lt_base h]
      refine ⟨_, _, rfl, ?_⟩
      have : ∀ k : Nat, k < 10 → 1 ≤ k → (Nat.digitChar k).toNat ≠ 48 := by decide
      exact this m h h1
    · have hm : m % 10 < 10 := Nat.mod_lt m (by decide)
      have t : Nat.toDigits 10 (m / 10) ++ Nat.toDigits 10 (m % 10) = Nat.toDigits 10 (10 * (m / 10) + m % 10) := Nat.toDigits_append_toDigits (by decide) (by omega) hm
      rw [Nat.div_add_mod] at t
      obtain ⟨c, r, e, hc⟩ := ih (m / 10) (by omega) (by omega)
      refine ⟨c, r ++ (Nat.toDigits 10 (m % 10)).map Char.toNat, ?_, hc⟩
      rw [← t, List.map_append, e]
      rfl
theorem dig_facts {n : Int} (h0 : 1 ≤ n) (h1 : n < topN) : AllDigits (dig n) ∧ (∃ c r, dig n = c :: r ∧ c ≠ 48) ∧ (dig n).length ≤ 63 ∧ ((digitsVal (dig n) : Nat) : Int) = n := by
  obtain ⟨m, rfl⟩ := Int.eq_ofNat_of_zero_le (show 0 ≤ n by omega)
  have hm : m < 10 ^ 63 := by
    have : ((m : Nat) : Int) < ((10 ^ 63 : Nat) : Int) := by simpa [topN] using h1
    exact Int.ofNat_lt.mp this
  rw [dig_nat]
  refine ⟨?_, dig_head m (by omega), ?_, by rw [PySem.W.KIN.val_back]⟩
  · intro c hc
    obtain ⟨ch, hch, e⟩ := List.mem_map.mp hc
    have r := digit_range (Nat.isDigit_of_mem_toDigits (by decide) (by decide) hch)
    rw [← e]
    exact r
  · rw [List.length_map]
    exact toDigits_len_pow (by decide) (by decide) hm
theorem cs_len_app (x y : Str) : (x ++ y).length = x.length + y.length := by
  rw [← cs_len, cs_app, List.length_append, cs_len, cs_len]
def sgnC (w : Str) : Nat := if w = "plus" then 43 else if w = "less" then 45 else if w = "times" then 42 else 47
def sgn (w : Str) : List Nat := [32, sgnC w, 32]
def par : Way → List Nat
  | .num n => dig n
  | .op w a b => 40 :: (par a ++ (sgn w ++ (par b ++ [41])))
def txt : Way → List Nat
  | .num n => dig n
  | .op w a b => par a ++ (sgn w ++ par b)
def toks : Way → List V
  | .num n => [.int n]
  | .op w a b => .str "(" :: (toks a ++ (.str w :: (toks b ++ [.str ")"])))
/-- no figure stands first -/
def Stop (l : List Nat) : Prop := ∀ c r, l = c :: r → isF c = false
theorem take_fig : ∀ {d r : List Nat}, (∀ c ∈ d, isF c = true) → Stop r → (d ++ r).takeWhile isF = d
  | [], r, _, h => by
    cases r with
    | nil => rfl
    | cons c r => rw [List.nil_append, List.takeWhile_cons, h c r rfl]; rfl
  | c :: d, r, h, hs => by
    rw [List.cons_append, List.takeWhile_cons, h c (List.mem_cons_self ..)]
    show c :: (d ++ r).takeWhile isF = c :: d
    rw [take_fig (fun x hx => h x (List.mem_cons_of_mem _ hx)) hs]
/-- what stands first, and how many signs it has -/
def tokAt : List Nat → Option (V × Nat)
  | [] => none
  | c :: r => if c = 40 ∨ c = 41 then some (.str ⟨#[c]⟩, 1)
    else if isF c = true then (if c ≠ 48 ∧ ((c :: r).takeWhile isF).length < 64 then some (.int ((digitsVal ((c :: r).takeWhile isF) : Nat) : Int), ((c :: r).takeWhile isF).length) else none)
    else if (c :: r).take 3 = sgn "plus" then some (.str "plus", 3)
    else if (c :: r).take 3 = sgn "less" then some (.str "less", 3)
    else if (c :: r).take 3 = sgn "times" then some (.str "times", 3)
    else if (c :: r).take 3 = sgn "share" then some (.str "share", 3)
    else none
inductive Lex : List Nat → List V → Prop where
  | nil : Lex [] []
  | cons {l : List Nat} {v : V} {k : Nat} {ts : List V} (h : tokAt l = some (v, k)) (hk : 1 ≤ k) (hr : Lex (l.drop k) ts) : Lex l (v :: ts)
theorem tok_open (r : List Nat) : tokAt (40 :: r) = some (.str "(", 1) := rfl
theorem tok_close (r : List Nat) : tokAt (41 :: r) = some (.str ")", 1) := rfl
theorem tok_sgn {w : Str} (h : okWord w) (r : List Nat) : tokAt (sgn w ++ r) = some (.str w, 3) := by
  rcases h with rfl | rfl | rfl | rfl <;> rfl
theorem tok_dig {n : Int} (h0 : 1 ≤ n) (h1 : n < topN) {r : List Nat} (hs : Stop r) : tokAt (dig n ++ r) = some (.int n, (dig n).length) := by
  obtain ⟨ha, ⟨c, t, e, hc⟩, hl, hv⟩ := dig_facts h0 h1
  have tw : (dig n ++ r).takeWhile isF = dig n := take_fig (fun c hc => (isF_iff c).mpr (ha c hc)) hs
  have h48 := ha c (by rw [e]; exact List.mem_cons_self ..)
  have fc : isF c = true := (isF_iff c).mpr h48
  have e2 : dig n ++ r = c :: (t ++ r) := by rw [e]; rfl
  rw [e2] at tw ⊢
  unfold tokAt
  dsimp only
  rw [if_neg (by omega), if_pos fc, tw, if_pos ⟨hc, by omega⟩, hv]
theorem stop_sgn (w : Str) (r : List Nat) : Stop (sgn w ++ r) := by
  intro c t e
  cases e
  decide +kernel
theorem stop_close (r : List Nat) : Stop (41 :: r) := by
  intro c t e
  cases e
  decide +kernel
theorem lex_par {m : Int} (hm : m < topN) : ∀ {x : Way}, x.ok m → ∀ {r : List Nat} {ts : List V}, Stop r → Lex r ts → Lex (par x ++ r) (toks x ++ ts) := by
  intro x
  induction x with
  | num n =>
    intro ⟨h0, h1⟩ r ts hs hr
    have hn : n < topN := by omega
    obtain ⟨_, ⟨c, t, e, _⟩, _⟩ := dig_facts h0 hn
    refine .cons (tok_dig h0 hn hs) (by rw [e]; exact Nat.succ_le_succ (Nat.zero_le _)) ?_
    show Lex ((dig n ++ r).drop (dig n).length) ([] ++ ts)
    rw [List.drop_left]
    exact hr
  | op w a b iha ihb =>
    intro ⟨hw, ha, hb⟩ r ts hs hr
    have e : par (.op w a b) ++ r = 40 :: (par a ++ (sgn w ++ (par b ++ (41 :: r)))) := by simp [par]
    have e2 : toks (.op w a b) ++ ts = .str "(" :: (toks a ++ (.str w :: (toks b ++ (.str ")" :: ts)))) := by simp [toks]
    rw [e, e2]
    refine .cons (tok_open _) (Nat.le_refl _) ?_
    show Lex (par a ++ (sgn w ++ (par b ++ (41 :: r)))) _
    refine iha ha (stop_sgn _ _) (.cons (tok_sgn hw _) (by decide) ?_)
    show Lex (par b ++ (41 :: r)) _
    exact ihb hb (stop_close _) (.cons (tok_close _) (Nat.le_refl _) hr)
theorem par_len {m : Int} (hm : m < topN) : ∀ {x : Way}, x.ok m → (par x).length + 5 ≤ 70 * x.size := by
  intro x
  induction x with
  | num n =>
    intro ⟨h0, h1⟩
    have := (dig_facts h0 (show n < topN by omega)).2.2.1
    show (dig n).length + 5 ≤ 70 * 1
    omega
  | op w a b iha ihb =>
    intro ⟨hw, ha, hb⟩
    have h1 := iha ha
    have h2 := ihb hb
    have e : (par (.op w a b)).length = (par a).length + (par b).length + 5 := by simp [par, sgn]; omega
    have e2 : (Way.op w a b).size = a.size + b.size := rfl
    omega
theorem par_txt (w : Str) (a b : Way) : par (.op w a b) = 40 :: (txt (.op w a b) ++ [41]) := by simp [par, txt]
theorem txt_len {m : Int} (hm : m < topN) {x : Way} (h : x.ok m) : (txt x).length ≤ 70 * x.size := by
  have := par_len hm h
  cases x with
  | num n => exact Nat.le_trans (Nat.le_add_right _ _) this
  | op w a b => rw [par_txt] at this; simp at this; omega
/-! way_shown's pile -/
def showRun : List V → List Str → Option (List Str)
  | [], st => some st
  | .int n :: r, st => if 1 ≤ n ∧ n < topN then showRun r (mkS (dig n) :: st) else none
  | .str w :: r, b :: a :: st => if okWord w ∧ a.length + b.length ≤ 10000 then showRun r (mkS (40 :: (cs a ++ (sgn w ++ (cs b ++ [41])))) :: st) else none
  | _, _ => none
theorem show_str (w : Str) (r : List V) (a b : Str) (st : List Str) : showRun (.str w :: r) (b :: a :: st) = if okWord w ∧ a.length + b.length ≤ 10000 then showRun r (mkS (40 :: (cs a ++ (sgn w ++ (cs b ++ [41])))) :: st) else none := by rw [showRun]
theorem show_int (n : Int) (r : List V) (st : List Str) : showRun (.int n :: r) st = if 1 ≤ n ∧ n < topN then showRun r (mkS (dig n) :: st) else none := by rw [showRun]
theorem show_some {y : V} {r : List V} {st out : List Str} (h : showRun (y :: r) st = some out) : (∃ n : Int, y = .int n ∧ 1 ≤ n ∧ n < topN ∧ showRun r (mkS (dig n) :: st) = some out) ∨
    ∃ (w : Str) (a b : Str) (st2 : List Str), y = .str w ∧ st = b :: a :: st2 ∧ okWord w ∧ a.length + b.length ≤ 10000 ∧ showRun r (mkS (40 :: (cs a ++ (sgn w ++ (cs b ++ [41])))) :: st2) = some out := by
  unfold showRun at h
  split at h
  · cases ‹_ :: _ = []›
  · rename_i n r' e
    cases e
    split at h
    · rename_i hg
      exact .inl ⟨_, rfl, hg.1, hg.2, h⟩
    · cases h
  · rename_i w r' b a st2 e
    cases e
    split at h
    · rename_i hg
      exact .inr ⟨_, _, _, _, rfl, rfl, hg.1, hg.2, h⟩
    · cases h
  · cases h
theorem show_post {m : Int} (hm : m < topN) : ∀ {x : Way}, x.ok m → x.size ≤ 100 → ∀ (r : List V) (st : List Str), showRun (post x ++ r) st = showRun r (mkS (par x) :: st) := by
  intro x
  induction x with
  | num n => intro ⟨h0, h1⟩ _ r st; show showRun (.int n :: r) st = _; rw [show_int, if_pos ⟨h0, by omega⟩]; rfl
  | op w a b iha ihb =>
    intro ⟨hw, ha, hb⟩ hs r st
    have e2 : (Way.op w a b).size = a.size + b.size := rfl
    rw [post, List.append_assoc, List.append_assoc, iha ha (by omega), ihb hb (by omega)]
    show showRun (.str w :: r) _ = _
    have h1 := par_len hm ha
    have h2 := par_len hm hb
    rw [show_str, if_pos ⟨hw, by rw [len_mkS, len_mkS]; omega⟩, cs_mkS, cs_mkS]
    rfl

/-! read_way's pile -/
inductive Item where
  | br
  | wd (w : Str)
  | wy (x : Way)
inductive ItemIn (H : Hp) : V → Item → Prop where
  | br : ItemIn H (.str "(") .br
  | wd {w : Str} (h : okWord w) : ItemIn H (.str w) (.wd w)
  | wy {v : V} {x : Way} (h : WayIn H v x) : ItemIn H v (.wy x)
theorem ItemIn.kt {H H' : Hp} {v : V} {i : Item} (h : ItemIn H v i) (k : KT H H') : ItemIn H' v i := by
  cases h with
  | br => exact .br
  | wd h => exact .wd h
  | wy h => exact .wy (h.kt k)
def closeIt : List Item → Option (List Item)
  | .wy b :: .wd w :: .wy a :: .br :: st => some (.wy (.op w a b) :: st)
  | _ => none
theorem closeIt_some {st st2 : List Item} (h : closeIt st = some st2) : ∃ (w : Str) (a b : Way) (r : List Item), st = .wy b :: .wd w :: .wy a :: .br :: r ∧ st2 = .wy (.op w a b) :: r := by
  unfold closeIt at h
  split at h
  · cases h; exact ⟨_, _, _, _, rfl, rfl⟩
  · cases h
def parse : List V → List Item → Option (List Item)
  | [], st => some st
  | .int n :: r, st => parse r (.wy (.num n) :: st)
  | .str w :: r, st => if w = "(" then parse r (.br :: st) else if w = ")" then (closeIt st).bind (parse r) else if okWord w then parse r (.wd w :: st) else none
  | _, _ => none
theorem parse_int (n : Int) (r : List V) (st : List Item) : parse (.int n :: r) st = parse r (.wy (.num n) :: st) := by rw [parse]
theorem parse_str (w : Str) (r : List V) (st : List Item) : parse (.str w :: r) st = if w = "(" then parse r (.br :: st) else if w = ")" then (closeIt st).bind (parse r) else if okWord w then parse r (.wd w :: st) else none := by rw [parse]
theorem parse_some {y : V} {r : List V} {st out : List Item} (h : parse (y :: r) st = some out) : (∃ n : Int, y = .int n ∧ parse r (.wy (.num n) :: st) = some out) ∨ (y = .str "(" ∧ parse r (.br :: st) = some out) ∨
    (∃ (w : Str) (a b : Way) (st2 : List Item), y = .str ")" ∧ st = .wy b :: .wd w :: .wy a :: .br :: st2 ∧ parse r (.wy (.op w a b) :: st2) = some out) ∨ ∃ w : Str, y = .str w ∧ w ≠ "(" ∧ w ≠ ")" ∧ okWord w ∧ parse r (.wd w :: st) = some out := by
  cases y with
  | int n => rw [parse_int] at h; exact .inl ⟨n, rfl, h⟩
  | str w =>
    rw [parse_str] at h
    split at h
    · rename_i e; subst e; exact .inr (.inl ⟨rfl, h⟩)
    · split at h
      · rename_i e; subst e
        cases hc : closeIt st with
        | none => rw [hc] at h; cases h
        | some st2 =>
          rw [hc] at h
          obtain ⟨w, a, b, r2, e1, e2⟩ := closeIt_some hc
          subst e2
          exact .inr (.inr (.inl ⟨w, a, b, r2, rfl, e1, h⟩))
      · split at h
        · rename_i n1 n2 hw
          exact .inr (.inr (.inr ⟨w, rfl, n1, n2, hw, h⟩))
        · cases h
  | _ => unfold parse at h; cases h
theorem okWord_ne {w : Str} (h : okWord w) : w ≠ "(" ∧ w ≠ ")" := by
  rcases h with rfl | rfl | rfl | rfl <;> decide
theorem parse_toks {m : Int} : ∀ {x : Way}, x.ok m → ∀ (r : List V) (st : List Item), parse (toks x ++ r) st = parse r (.wy x :: st) := by
  intro x
  induction x with
  | num n => intro _ r st; exact parse_int n r st
  | op w a b iha ihb =>
    intro ⟨hw, ha, hb⟩ r st
    have e2 : toks (.op w a b) ++ r = .str "(" :: (toks a ++ (.str w :: (toks b ++ (.str ")" :: r)))) := by simp [toks]
    obtain ⟨n1, n2⟩ := okWord_ne hw
    rw [e2, parse_str, if_pos rfl, iha ha, parse_str, if_neg n1, if_neg n2, if_pos hw, ihb hb, parse_str, if_neg (by decide), if_pos rfl]
    rfl
theorem toks_len (x : Way) : (toks x).length + 3 = 4 * x.size := by
  induction x with
  | num n => rfl
  | op w a b iha ihb =>
    have e : (toks (.op w a b)).length = (toks a).length + (toks b).length + 3 := by simp [toks]; omega
    have e2 : (Way.op w a b).size = a.size + b.size := rfl
    omega

/-! a way as plain data -/
def wd : Way → D
  | .num n => .int n
  | .op w a b => .tup [.str w, wd a, wd b]
theorem wd_dep (x : Way) : (wd x).dep = x.ht := by
  induction x with
  | num n => rfl
  | op w a b iha ihb => simp [wd, D.dep, deps, iha, ihb, Way.ht]
/-! promises -/
def spFigures : Sp := fun vs H Q _ => ∃ n : Int, vs = [.int n] ∧ 1 ≤ n ∧ n < topN ∧ ∀ H', Same H H' → Q (.str (mkS (dig n))) H'
def spNumberOf : Sp := fun vs H Q _ => ∃ z : Str, vs = [.str z] ∧ AllDigits (cs z) ∧ (∃ c r, cs z = c :: r ∧ c ≠ 48) ∧ z.length < 64 ∧ ∀ H', Same H H' → Q (.int ((digitsVal (cs z) : Nat) : Int)) H'
def spFigEnd : Sp := fun vs H Q _ => ∃ (z : Str) (k : Nat), vs = [.str z, .int k] ∧ k ≤ z.length ∧ z.length ≤ 10000 ∧ Q (.int ((k + (((cs z).drop k).takeWhile isF).length : Nat) : Int)) H
def spIsFig : Sp := fun vs H Q _ => ∃ z : Str, vs = [.str z] ∧ z.length ≤ 10000 ∧ ∀ b : Bool, (b = true ↔ cs z ≠ [] ∧ ((cs z).takeWhile isF).length = (cs z).length) → Q (.bl b) H
def spPieceAt : Sp := fun vs H Q _ => ∃ (z : Str) (k : Nat) (v : V) (n : Nat), vs = [.str z, .int k] ∧ z.length ≤ 10000 ∧ tokAt ((cs z).drop k) = some (v, n) ∧ ∀ (t : Addr) (H' : Hp), Same H H' → H' t = some (.tup [v, .int ((k + n : Nat) : Int)]) → Q (.ref t) H'
def spPieces : Sp := fun vs H Q _ => ∃ (z : Str) (ts : List V), vs = [.str z] ∧ z.length ≤ 10000 ∧ Lex (cs z) ts ∧ ∀ (r : Addr) (H' : Hp), Same H H' → H' r = some (.lst ts) → Q (.ref r) H'
def spClosed : Sp := fun vs H Q _ => ∃ (p : Addr) (pre : List V) (a b : V) (wd : Str) (x y : Way), vs = [.ref p] ∧ H p = some (.lst (pre ++ [.str "(", a, .str wd, b])) ∧ okWord wd ∧ WayIn H a x ∧ WayIn H b y ∧ ∀ (t : Addr) (H' : Hp), Same H H' → H' t = some (.tup [.str wd, a, b]) → Q (.ref t) H'
def spIsWord : Sp := fun vs H Q _ => ∃ wd : Str, vs = [.str wd] ∧ okWord wd ∧ Q (.bl true) H
def spIsWay : Sp := fun vs H Q _ => ∃ (v : V) (x : Way), vs = [v] ∧ WayIn H v x ∧ Q (.bl true) H
def spShown : Sp := fun vs H Q _ => ∃ (v : V) (x : Way) (m : Int), vs = [v] ∧ WayIn H v x ∧ x.ok m ∧ m < topN ∧ x.size ≤ 100 ∧ ∀ H', Same H H' → Q (.str (mkS (txt x))) H'
def spRead : Sp := fun vs H Q _ => ∃ (x : Way) (m : Int), vs = [.str (mkS (txt x))] ∧ x.ok m ∧ m < topN ∧ x.size ≤ 100 ∧ ∀ (v : V) (H' : Hp), Same H H' → WayIn H' v x → Q v H'
end Law

set_option Elab.async false
set_option linter.all false
set_option maxRecDepth 100000
set_option maxHeartbeats 4000000
namespace Law
open PySem L2
def top (i : Nat) : Stmt := PySem.Challenge.pw_ledtowish_k06_whole_ways_together.main.body.getD i (.Pass ⟨0, 0, 0, 0⟩)
section
variable {P : Program} {w : World} {K : PySem.W.Frag} {mg : Str → Option Value} {base : Heap}
abbrev s_law_take : Stmt := top 34
theorem sc_law_take : FnScope ["deck", "many", "at", "cell", "one"] ["deck", "many"] (defScope s_law_take) := ⟨rfl, rfl, rfl, by decide +kernel, rfl, by decide +kernel, by decide +kernel⟩
theorem ok_law_take {f : Addr} {fd : FuncData} (F : Fun K "_law_take" "_law_take" s_law_take f fd) (B : Blt mg) : FnOk P w K mg base CX0 1 f fd ["deck", "many"] spTake := by
  refine F.ok sc_law_take (fun vs H Q E h => ?_) (fun cdv A outer s H vs Q E hr h => ?_)
  · obtain ⟨d, c, many, rfl, _⟩ := h
    rfl
  obtain ⟨d, c, many, rfl, D, m0, m1, q⟩ := h
  have hdc := D.ne
  obtain ⟨cells, a, seed, hd, hc, hl⟩ := id D
  refine ⟨_, (pss_cons (ps_set (i := 2) sc_law_take.nd rfl (by first | exact Or.inl rfl | exact Or.inr rfl) (pe_op op_mod (pe_ix ix_list (pv 0) pe_int (fun _ _ => rfl)) (pe_callB call_len_seq rfl B.len bt_len (pa_cons (pe_ix ix_list (pv 0) pe_int (fun _ _ => rfl)) pa_nil))))
      (pss_cons (ps_asg (pe_op op_add (pe_ix ix_list (pv 0) pe_int (fun _ _ => rfl)) pe_int) (pg_sub (pv 0) pe_int set_list))
      (pss_cons (ps_set (i := 3) sc_law_take.nd rfl (by first | exact Or.inl rfl | exact Or.inr rfl) (pe_ix ix_list (pe_ix ix_list (pv 0) pe_int (fun _ _ => rfl)) (pv 2) (fun _ _ => rfl)))
      (pss_cons (ps_if (PW.pt (pw_or (pt_cmpR op_eq (pv 3) pe_int (nomark _)) (pw_or1 (pt_cmpR op_eq (pv 3) (pe_un un_neg pe_int) (nomark _))))) (pss_cons (ps_set (i := 4) sc_law_take.nd rfl (by first | exact Or.inl rfl | exact Or.inr rfl) (pe_op op_mod (pe_op op_mul (pe_op op_mod (pe_op op_add (pe_ix ix_list (pv 0) pe_int (fun _ _ => rfl)) (pe_op op_mul pe_int (pe_ix ix_list (pv 0) pe_int (fun _ _ => rfl)))) pe_int) pe_int) pe_int))
      (pss_cons (ps_set (i := 4) sc_law_take.nd rfl (by first | exact Or.inl rfl | exact Or.inr rfl) (pe_op op_mod (pe_op op_mul (pe_op op_mod (pe_op op_add (pe_op op_mul (pv 4) (pv 4)) (pe_op op_mul pe_int (pe_ix ix_list (pv 0) pe_int (fun _ _ => rfl)))) pe_int) pe_int) pe_int))
      (pss_one (ps_ret (pe_op op_mod (pe_op op_fdiv (pv 4) pe_int) (pv 1)))))) pss_nil)
      (pss_cons (ps_asg (pe_op op_fdiv (pv 3) (pv 1)) (pg_sub (pe_ix ix_list (pv 0) pe_int (fun _ _ => rfl)) (pv 2) set_list))
      (pss_one (ps_ret (pe_op op_mod (pv 3) (pv 1))))))))), ?_⟩
  have lc : (cells.map V.int).length = cells.length := List.length_map _
  have l0 : 0 < (((cells.map V.int).length : Nat) : Int) := by omega
  refine ⟨_, rfl, d, _, _, _, rfl, rfl, SqL.of hd, rfl, _, rfl, d, _, _, _, rfl, rfl, SqL.of hd, rfl, c, _, rfl, .inl (SqL.of hc), _, _, rfl, rfl, l0, ?_⟩
  have i0 : 0 ≤ a % (((cells.map V.int).length : Nat) : Int) := Int.emod_nonneg _ (by omega)
  have i1 : a % (((cells.map V.int).length : Nat) : Int) < (cells.length : Int) := by rw [← lc]; exact Int.emod_lt_of_pos _ l0
  obtain ⟨j, hj⟩ : ∃ j : Nat, a % (((cells.map V.int).length : Nat) : Int) = (j : Int) := ⟨(a % (((cells.map V.int).length : Nat) : Int)).toNat, by omega⟩
  have jl : j < cells.length := by omega
  -- deck[1] = deck[1] + 1
  refine ⟨_, rfl, d, _, _, _, rfl, rfl, SqL.of hd, rfl, _, _, rfl, rfl, _, rfl, d, _, 1, 1, rfl, rfl, hd, rfl, ?_⟩
  have hd1 : (upd H d (.lst [.ref c, .int (a + 1), .int seed])) d = some (.lst [.ref c, .int (a + 1), .int seed]) := upd_same
  have hc1 : (upd H d (.lst [.ref c, .int (a + 1), .int seed])) c = some (.lst (cells.map V.int)) := by rw [upd_ne hdc.symm]; exact hc
  have k1 : Keep [d, c] H (upd H d (.lst [.ref c, .int (a + 1), .int seed])) := Keep.upd (by simp)
  obtain ⟨cell, hcell⟩ : ∃ cell, cells[j]? = some cell := ⟨cells[j], List.getElem?_eq_getElem jl⟩
  have hat : atI (cells.map V.int) (a % (((cells.map V.int).length : Nat) : Int)) = some (.int cell) := by
    rw [hj]; exact atI_nat (by rw [List.getElem?_map, hcell]; rfl)
  have hix : ixN (cells.map V.int).length (a % (((cells.map V.int).length : Nat) : Int)) = some j := by
    unfold ixN
    rw [if_pos i0, if_pos (by omega)]
    exact congrArg some (by omega)
  -- cell = deck[0][at]
  refine ⟨_, rfl, d, _, _, _, rfl, rfl, SqL.of hd1, rfl, _, rfl, c, _, _, _, rfl, rfl, SqL.of hc1, hat, ?_⟩
  have D1 : DeckAt (upd H d (.lst [.ref c, .int (a + 1), .int seed])) d c := ⟨cells, _, _, hd1, hc1, hl⟩
  -- the test
  refine ⟨_, rfl, rfl, _, rfl, ?_⟩
  refine ite2 (fun _ => iteT ?g1) (fun _ => ?g3)
  case g3 =>
    refine ⟨_, rfl, 1, rfl, rfl, _, rfl, ?_⟩
    refine ite2 (fun _ => ?g2) (fun _ => ?g4)
    case g4 =>
      refine ⟨_, rfl, _, rfl, _, _, rfl, rfl, ⟨m0, m1⟩, _, rfl, d, _, _, _, rfl, rfl, SqL.of hd1, rfl, _, rfl, c, _, _, j, rfl, rfl, hc1, hix, ?_⟩
      refine ⟨_, rfl, _, rfl, _, _, rfl, rfl, m0, ?_⟩
      refine q _ _ (Int.emod_nonneg _ (by omega)) (Int.emod_lt_of_pos _ m0) (k1.trans (Keep.upd (by simp))) ⟨cells.set j (cell / many), _, _, by rw [upd_ne hdc]; exact hd1, ?_, by rw [List.length_set]; exact hl⟩
      rw [upd_same, List.map_set]
    case g2 =>
      refine ⟨_, rfl, d, _, _, _, rfl, rfl, SqL.of hd1, rfl, _, rfl, d, _, _, _, rfl, rfl, SqL.of hd1, rfl, _, _, rfl, rfl, .inl ⟨by decide, by decide⟩, _, _, rfl, rfl, _, _, rfl, rfl, (by show (0 : Int) < _; decide), _, _, rfl, rfl, .inr ⟨by decide, by decide⟩, _, _, rfl, rfl, (by show (0 : Int) < _; decide), ?_⟩
      refine ⟨_, rfl, _, rfl, _, _, rfl, rfl, .inl ⟨by omega, by omega⟩, _, rfl, d, _, _, _, rfl, rfl, SqL.of hd1, rfl, _, _, rfl, rfl, .inl ⟨by decide, by decide⟩, _, _, rfl, rfl, _, _, rfl, rfl, (by show (0 : Int) < _; decide), _, _, rfl, rfl, .inr ⟨by decide, by decide⟩, _, _, rfl, rfl, (by show (0 : Int) < _; decide), ?_⟩
      refine ⟨_, rfl, _, _, rfl, rfl, ⟨by decide, by decide⟩, _, rfl, _, _, rfl, rfl, m0, ?_⟩
      exact q _ _ (Int.emod_nonneg _ (by omega)) (Int.emod_lt_of_pos _ m0) k1 D1
  case g1 =>
    refine ⟨_, rfl, d, _, _, _, rfl, rfl, SqL.of hd1, rfl, _, rfl, d, _, _, _, rfl, rfl, SqL.of hd1, rfl, _, _, rfl, rfl, .inl ⟨by decide, by decide⟩, _, _, rfl, rfl, _, _, rfl, rfl, (by show (0 : Int) < _; decide), _, _, rfl, rfl, .inr ⟨by decide, by decide⟩, _, _, rfl, rfl, (by show (0 : Int) < _; decide), ?_⟩
    refine ⟨_, rfl, _, rfl, _, _, rfl, rfl, .inl ⟨by omega, by omega⟩, _, rfl, d, _, _, _, rfl, rfl, SqL.of hd1, rfl, _, _, rfl, rfl, .inl ⟨by decide, by decide⟩, _, _, rfl, rfl, _, _, rfl, rfl, (by show (0 : Int) < _; decide), _, _, rfl, rfl, .inr ⟨by decide, by decide⟩, _, _, rfl, rfl, (by show (0 : Int) < _; decide), ?_⟩
    refine ⟨_, rfl, _, _, rfl, rfl, ⟨by decide, by decide⟩, _, rfl, _, _, rfl, rfl, m0, ?_⟩
    exact q _ _ (Int.emod_nonneg _ (by omega)) (Int.emod_lt_of_pos _ m0) k1 D1
abbrev s_law_number : Stmt := top 35
theorem sc_law_number : FnScope ["deck", "some"] ["deck"] (defScope s_law_number) := ⟨rfl, rfl, rfl, by decide +kernel, rfl, by decide +kernel, by decide +kernel⟩
theorem ok_law_number {f : Addr} {fd : FuncData} (F : Fun K "_law_number" "_law_number" s_law_number f fd) (B : Blt mg) (Gtake : Def P w K mg base CX0 1 "_law_take" spTake) : FnOk P w K mg base CX0 2 f fd ["deck"] (spDraw 1000000) := by
  refine F.ok sc_law_number (fun vs H Q E h => ?_) (fun cdv A outer s H vs Q E hr h => ?_)
  · obtain ⟨d, c, rfl, _⟩ := h
    rfl
  obtain ⟨d, c, rfl, D, q⟩ := h
  refine ⟨_, (pss_cons (ps_set (i := 1) sc_law_number.nd rfl (by first | exact Or.inl rfl | exact Or.inr rfl) (pe_lst (pa_cons pe_int (pa_cons pe_int (pa_cons (pe_op op_add pe_int (pe_def Gtake (hr.mono (by omega)) (pa_cons (pv 0) (pa_cons pe_int pa_nil)))) (pa_cons (pe_op op_add pe_int (pe_def Gtake (hr.mono (by omega)) (pa_cons (pv 0) (pa_cons pe_int pa_nil)))) (pa_cons pe_int (pa_cons pe_int (pa_cons pe_int pa_nil)))))))))
      (pss_cons (ps_set (i := 1) sc_law_number.nd rfl (by first | exact Or.inl rfl | exact Or.inr rfl) (pe_op op_cat (pv 1) (pe_lst (pa_cons (pe_op op_add pe_int (pe_def Gtake (hr.mono (by omega)) (pa_cons (pv 0) (pa_cons (pe_op op_pow pe_int pe_int) pa_nil)))) (pa_cons (pe_op op_pow pe_int pe_int) pa_nil)))))
      (pss_one (ps_ret (pe_ix ix_list (pv 1) (pe_def Gtake (hr.mono (by omega)) (pa_cons (pv 0) (pa_cons pe_int pa_nil))) (fun _ _ => rfl)))))), ?_⟩
  refine ⟨_, rfl, d, c, 10, rfl, D, by decide, by decide, fun r1 H1 a1 b1 k1 D1 => ⟨_, _, rfl, rfl, _, rfl, d, c, 10, rfl, D1, by decide, by decide, fun r2 H2 a2 b2 k2 D2 => ⟨_, _, rfl, rfl, (by show 7 ≤ sizeLine; decide), fun p hp => ?_⟩⟩⟩
  have D3 : DeckAt (upd H2 p (.lst [.int 1, .int 2, .int (1 + r1), .int (1 + r2), .int 25, .int 75, .int 100])) d c := D2.new hp
  have np : p ∉ [d, c] := D2.nin hp
  refine ⟨_, rfl, _, rfl, _, _, rfl, rfl, ⟨by decide, by decide, by decide⟩, d, c, _, rfl, D3, by decide, by decide, fun r3 H3 a3 b3 k3 D4 => ⟨_, _, rfl, rfl, _, _, rfl, rfl, ⟨by decide, by decide, by decide⟩, (by show 2 ≤ sizeLine; decide), fun p2 hp2 => ?_⟩⟩
  have h3 : H3 p = some (.lst [.int 1, .int 2, .int (1 + r1), .int (1 + r2), .int 25, .int 75, .int 100]) := k3 _ _ upd_same np
  refine ⟨p, p2, _, _, rfl, rfl, (by rw [upd_ne (ne_of_none h3 hp2)]; exact h3), upd_same, (by show 9 ≤ sizeLine; decide), fun p3 hp3 => ?_⟩
  have D5 : DeckAt (upd (upd H3 p2 (.lst [.int (1 + r3), .int ((10 : Int) ^ (6 : Int).toNat)])) p3 (.lst ([.int 1, .int 2, .int (1 + r1), .int (1 + r2), .int 25, .int 75, .int 100] ++ [.int (1 + r3), .int ((10 : Int) ^ (6 : Int).toNat)]))) d c := (D4.new hp2).new hp3
  have np3 : p3 ∉ [d, c] := (D4.new hp2).nin hp3
  refine ⟨_, rfl, _, rfl, d, c, 9, rfl, D5, by decide, by decide, fun r4 H4 a4 b4 k4 D6 => ?_⟩
  have h5 := k4 _ _ upd_same np3
  obtain ⟨v, hv, hm⟩ := atI_mem (xs := ([.int 1, .int 2, .int (1 + r1), .int (1 + r2), .int 25, .int 75, .int 100] ++ [.int (1 + r3), .int ((10 : Int) ^ (6 : Int).toNat)] : List V)) a4 (by exact b4)
  refine ⟨p3, _, _, _, rfl, rfl, SqL.of h5, hv, ?_⟩
  have kk : Keep [d, c] H H4 := k1.trans (k2.trans ((Keep.new hp).trans (k3.trans ((Keep.new hp2).trans ((Keep.new hp3).trans k4)))))
  have b3' : r3 < 1000000 := b3
  have e6 : (10 : Int) ^ (6 : Int).toNat = 1000000 := by decide
  simp only [List.cons_append, List.nil_append, List.mem_cons, List.not_mem_nil, or_false, e6] at hm
  rcases hm with rfl | rfl | rfl | rfl | rfl | rfl | rfl | rfl | rfl <;> exact q _ H4 (by omega) (by omega) kk D6
abbrev s_law_size : Stmt := top 40
theorem sc_law_size : FnScope ["deck"] ["deck"] (defScope s_law_size) := ⟨rfl, rfl, rfl, by decide +kernel, rfl, by decide +kernel, by decide +kernel⟩
theorem ok_law_size {f : Addr} {fd : FuncData} (F : Fun K "_law_size" "_law_size" s_law_size f fd) (B : Blt mg) (Gtake : Def P w K mg base CX0 1 "_law_take" spTake) : FnOk P w K mg base CX0 2 f fd ["deck"] (spDraw 8) := by
  refine F.ok sc_law_size (fun vs H Q E h => ?_) (fun cdv A outer s H vs Q E hr h => ?_)
  · obtain ⟨d, c, rfl, _⟩ := h
    rfl
  obtain ⟨d, c, rfl, D, q⟩ := h
  refine ⟨_, (pss_one (ps_ret (pe_ix ix_list (pe_lst (pa_cons pe_int (pa_cons pe_int (pa_cons pe_int (pa_cons pe_int (pa_cons (pe_op op_add pe_int (pe_def Gtake (hr.mono (by omega)) (pa_cons (pv 0) (pa_cons pe_int pa_nil)))) (pa_cons pe_int pa_nil))))))) (pe_def Gtake (hr.mono (by omega)) (pa_cons (pv 0) (pa_cons pe_int pa_nil))) (fun _ _ => rfl)))), ?_⟩
  refine ⟨_, rfl, d, c, 8, rfl, D, by decide, by decide, fun r1 H1 a1 b1 k1 D1 => ⟨_, _, rfl, rfl, (by show 6 ≤ sizeLine; decide), fun p hp => ?_⟩⟩
  have D3 : DeckAt (upd H1 p (.lst [.int 1, .int 2, .int 3, .int 4, .int (1 + r1), .int 8])) d c := D1.new hp
  have np : p ∉ [d, c] := D1.nin hp
  refine ⟨_, rfl, d, c, 6, rfl, D3, by decide, by decide, fun r4 H4 a4 b4 k4 D6 => ?_⟩
  have h5 := k4 _ _ upd_same np
  obtain ⟨v, hv, hm⟩ := atI_mem (xs := ([.int 1, .int 2, .int 3, .int 4, .int (1 + r1), .int 8] : List V)) a4 (by exact b4)
  refine ⟨p, _, _, _, rfl, rfl, SqL.of h5, hv, ?_⟩
  have kk : Keep [d, c] H H4 := k1.trans ((Keep.new hp).trans k4)
  simp only [List.mem_cons, List.not_mem_nil, or_false] at hm
  rcases hm with rfl | rfl | rfl | rfl | rfl | rfl <;> exact q _ H4 (by omega) (by omega) kk D6
abbrev s_law_deck : Stmt := top 33
theorem sc_law_deck : FnScope ["script", "cells", "seed", "k", "mixed"] ["script"] (defScope s_law_deck) := ⟨rfl, rfl, rfl, by decide +kernel, rfl, by decide +kernel, by decide +kernel⟩
theorem ok_law_deck {f : Addr} {fd : FuncData} (F : Fun K "_law_deck" "_law_deck" s_law_deck f fd) (B : Blt mg) : FnOk P w K mg base CX0 1 f fd ["script"] (spDeck K) := by
  refine F.ok sc_law_deck (fun vs H Q E h => ?_) (fun cdv A outer s H vs Q E hr h => ?_)
  · obtain ⟨a, ns, rfl, _⟩ := h
    rfl
  obtain ⟨a, ns, rfl, hS, hl, q⟩ := h
  have hlm : (ns.map V.int).length = ns.length := List.length_map _
  have cut : cutV (ns.map V.int) none (some (63 : Int)) = ns.map V.int := cut_all (k := 63) (by omega)
  refine ⟨_, (pss_cons (ps_set (i := 1) sc_law_deck.nd rfl (by first | exact Or.inl rfl | exact Or.inr rfl) (pe_op op_cat (pe_slice sl_list (pv 0) po_none (po_some pe_int)) (pe_lst (pa_cons (pe_callB call_len_seq rfl B.len bt_len (pa_cons (pv 0) pa_nil)) pa_nil))))
      (pss_cons (ps_set (i := 2) sc_law_deck.nd rfl (by first | exact Or.inl rfl | exact Or.inr rfl) (pe_op op_mod (pe_op op_add (pe_op op_add (pe_op op_mul (pe_callB (call_sum rfl) rfl B.sum bt_sum (pa_cons (pe_slice sl_list (pv 0) po_none (po_some pe_int)) pa_nil)) pe_int) (pe_op op_mul pe_int (pe_callB call_len_seq rfl B.len bt_len (pa_cons (pv 0) pa_nil)))) pe_int) pe_int))
      (pss_cons (ps_if (pt_cmpR op_eq (pe_op op_mod (pe_callB (call_sum rfl) rfl B.sum bt_sum (pa_cons (pe_slice sl_list (pv 0) po_none (po_some pe_int)) pa_nil)) pe_int) pe_int (nomark _)) (pss_one (ps_for PassesOwn.never rfl (pi_range1 rfl B.range (pa_cons (pe_callB call_len_seq rfl B.len bt_len (pa_cons (pv 1) pa_nil)) pa_nil)) (pg_name (i := 3) sc_law_deck.nd rfl (by first | exact Or.inl rfl | exact Or.inr rfl)) (pss_cons (ps_set (i := 4) sc_law_deck.nd rfl (by first | exact Or.inl rfl | exact Or.inr rfl) (pe_op op_mod (pe_op op_mul (pe_op op_add (pe_op op_add (pe_op op_mod (pe_ix ix_list (pv 1) (pv 3) (fun _ _ => rfl)) pe_int) (pe_op op_mul pe_int (pv 3))) pe_int) pe_int) pe_int))
      (pss_cons (ps_set (i := 4) sc_law_deck.nd rfl (by first | exact Or.inl rfl | exact Or.inr rfl) (pe_op op_mod (pe_op op_mul (pe_op op_mod (pe_op op_add (pe_op op_mul (pv 4) (pv 4)) (pe_op op_mul pe_int (pv 3))) pe_int) pe_int) pe_int))
      (pss_one (ps_asg (pe_op op_add (pe_op op_mul (pe_op op_mul (pv 4) (pv 4)) pe_int) (pe_op op_mod (pe_op op_mul (pv 4) pe_int) pe_int)) (pg_sub (pv 1) (pv 3) set_list))))))) pss_nil)
      (pss_one (ps_ret (pe_lst (pa_cons (pv 1) (pa_cons pe_int (pa_cons (pv 2) pa_nil))))))))), ?_⟩
  -- cells
  refine ⟨_, rfl, 63, rfl, a, _, rfl, hS, fun p1 hp1 => ?_⟩
  have s1 : Same H (upd H p1 (.lst (cutV (ns.map V.int) none (some (63 : Int))))) := Same.new hp1
  refine ⟨_, rfl, a, _, rfl, .inl (s1.seq hS), (by show 1 ≤ sizeLine; decide), fun p2 hp2 => ?_⟩
  have h1 : (upd H p1 (.lst (cutV (ns.map V.int) none (some (63 : Int))))) p1 = some (.lst (cutV (ns.map V.int) none (some (63 : Int)))) := upd_same
  refine ⟨p1, p2, _, _, rfl, rfl, (by rw [upd_ne (ne_of_none h1 hp2)]; exact h1), upd_same, (by rw [cut, hlm]; exact Nat.le_of_lt (small1000 (by show ns.length + 1 ≤ 1000; omega))), fun p3 hp3 => ?_⟩
  rw [cut] at hp2 hp3 ⊢
  generalize eH : upd (upd (upd H p1 (.lst (ns.map V.int))) p2 (.lst [.int (((ns.map V.int).length : Nat) : Int)])) p3 (.lst (ns.map V.int ++ [.int (((ns.map V.int).length : Nat) : Int)])) = H3
  have s3 : Same H H3 := by
    rw [← eH]
    exact (Same.new hp1).trans ((Same.new hp2).trans (Same.new hp3))
  have np3 : H p3 = none := ((Same.new hp1).trans (Same.new hp2)).free hp3
  have h3 : H3 p3 = some (.lst ((ns ++ [(((ns.map V.int).length : Nat) : Int)]).map V.int)) := by
    rw [← eH, upd_same, List.map_append]
    rfl
  -- seed
  refine ⟨_, rfl, 63, rfl, a, _, rfl, s3.seq hS, fun p4 hp4 => ⟨p4, ns, rfl, (by rw [cut]; exact SqL.of upd_same), _, _, rfl, rfl, .inr ⟨by decide, by decide⟩, _, rfl, a, _, rfl, .inl ((s3.trans (Same.new hp4)).seq hS), _, _, rfl, rfl, .inl ⟨by decide, by decide⟩, _, _, rfl, rfl, _, _, rfl, rfl, _, _, rfl, rfl, (by show (0 : Int) < _; decide), ?_⟩⟩
  have s4 := s3.trans (Same.new (o := .lst (cutV (ns.map V.int) none (some (63 : Int)))) hp4)
  have h4 := Same.new (o := .lst (cutV (ns.map V.int) none (some (63 : Int)))) hp4 _ _ h3
  refine ⟨_, rfl, 63, rfl, a, _, rfl, s4.seq hS, fun p5 hp5 => ⟨p5, ns, rfl, (by rw [cut]; exact SqL.of upd_same), _, _, rfl, rfl, (by show (0 : Int) < _; decide), rfl, _, rfl, ?_⟩⟩
  have s5 := s4.trans (Same.new (o := .lst (cutV (ns.map V.int) none (some (63 : Int)))) hp5)
  have h5 := Same.new (o := .lst (cutV (ns.map V.int) none (some (63 : Int)))) hp5 _ _ h4
  have lc : ((ns ++ [(((ns.map V.int).length : Nat) : Int)]).map V.int).length = ns.length + 1 := by simp
  refine ite2 (fun _ => ?_) (fun _ => ?_)
  · refine ⟨_, rfl, p3, _, rfl, .inl (SqL.of h5), _, rfl, (by rw [lc]; omega), (by rw [lc]; omega), for_range (n := _)
      (fun i σ H' => ∃ (cells : List Int) (sd : Int) (v m : Option V), σ = [some (.ref a), some (.ref p3), some (.int sd), v, m] ∧ Same H H' ∧ H' p3 = some (.lst (cells.map V.int)) ∧ cells.length = ns.length + 1)
      ⟨_, _, none, none, rfl, s5, h5, by simp⟩ ?_ ?_⟩
    · rintro i σ H' hi ⟨cells, sd, v, m, rfl, s6, h6, l6⟩
      rw [lc] at hi
      have lm : (cells.map V.int).length = cells.length := List.length_map _
      have i1 : (0 : Int) + (i : Int) < (((cells.map V.int).length : Nat) : Int) := by omega
      obtain ⟨x, hx, hm⟩ := atI_mem (xs := cells.map V.int) (r := 0 + (i : Int)) (by omega) i1
      obtain ⟨cell, _, rfl⟩ := List.mem_map.mp hm
      refine ⟨_, rfl, _, rfl, p3, _, _, _, rfl, rfl, SqL.of h6, hx, _, _, rfl, rfl, (by show (0 : Int) < _; decide), _, rfl, _, _, rfl, rfl, .inl ⟨by decide, by decide⟩, _, _, rfl, rfl, _, _, rfl, rfl, _, _, rfl, rfl, .inr ⟨by decide, by decide⟩, _, _, rfl, rfl, (by show (0 : Int) < _; decide), ?_⟩
      refine ⟨_, rfl, _, rfl, _, _, rfl, rfl, .inl ⟨by omega, by omega⟩, _, rfl, _, _, rfl, rfl, .inl ⟨by decide, by decide⟩, _, _, rfl, rfl, _, _, rfl, rfl, (by show (0 : Int) < _; decide), _, _, rfl, rfl, .inr ⟨by decide, by decide⟩, _, _, rfl, rfl, (by show (0 : Int) < _; decide), ?_⟩
      refine ⟨_, rfl, _, rfl, _, _, rfl, rfl, .inl ⟨by omega, by omega⟩, _, _, rfl, rfl, .inr ⟨by decide, by decide⟩, _, rfl, _, _, rfl, rfl, .inr ⟨by decide, by decide⟩, _, _, rfl, rfl, (by show (0 : Int) < _; decide), _, _, rfl, rfl, _, rfl, _, rfl, p3, _, _, _, rfl, rfl, h6, ixN_of (by omega) i1, ?_⟩
      refine ⟨_, sd, _, _, rfl, fun b o e => ?_, upd_same.trans (congrArg (fun l => some (HO.lst l)) set_int), by rw [List.length_set]; exact l6⟩
      rw [upd_ne (ne_of_none e np3)]
      exact s6 b o e
    · rintro σ H' ⟨cells, sd, v, m, rfl, s6, h6, l6⟩
      refine ⟨_, rfl, _, rfl, (by show 3 ≤ sizeLine; decide), fun d hd => ?_⟩
      exact q d p3 _ (s6.trans (Same.new hd)) (s6.free hd) np3 ⟨cells, 0, sd, upd_same, (by rw [upd_ne (ne_of_none h6 hd)]; exact h6), by omega⟩
  · refine ⟨_, rfl, _, rfl, (by show 3 ≤ sizeLine; decide), fun d hd => ?_⟩
    exact q d p3 _ (s5.trans (Same.new hd)) (s5.free hd) np3 ⟨_, 0, _, upd_same, (by rw [upd_ne (ne_of_none h5 hd)]; exact h5), by simp⟩
abbrev s_law_by : Stmt := top 36
theorem sc_law_by : FnScope ["word", "one", "other"] ["word", "one", "other"] (defScope s_law_by) := ⟨rfl, rfl, rfl, by decide +kernel, rfl, by decide +kernel, by decide +kernel⟩
theorem ok_law_by {f : Addr} {fd : FuncData} (F : Fun K "_law_by" "_law_by" s_law_by f fd) (B : Blt mg) : FnOk P w K mg base CX0 1 f fd ["word", "one", "other"] spBy := by
  refine F.ok sc_law_by (fun vs H Q E h => ?_) (fun cdv A outer s H vs Q E hr h => ?_)
  · obtain ⟨wd, a, b, rfl, _⟩ := h
    rfl
  obtain ⟨wd, a, b, rfl, hw, ha, ha2, hb, hb2, q⟩ := h
  have hmul : IntMulOk a b := mulOk_of (by omega) (by omega)
  refine ⟨_, (pss_cons (ps_if (pt_cmpR op_eq (pv 0) pe_str (nomark _)) (pss_one (ps_ret (pe_op op_add (pv 1) (pv 2)))) pss_nil)
      (pss_cons (ps_if (pt_cmpR op_eq (pv 0) pe_str (nomark _)) (pss_one (ps_ret (pe_op op_mulB (pv 1) (pv 2)))) pss_nil)
      (pss_cons (ps_if (pt_cmpR op_eq (pv 0) pe_str (nomark _)) (pss_one (ps_ret (pe_ix ix_list (pe_lst (pa_cons (pv 0) (pa_cons (pe_op op_sub (pv 1) (pv 2)) pa_nil))) (pe_callTy call_int1 rfl B.int bt_int (pa_cons (pe_cmpR op_gt (pv 1) (pv 2) (nomark _)) pa_nil)) (fun _ _ => rfl)))) pss_nil)
      (pss_one (ps_ret (pe_ix ix_list (pe_lst (pa_cons (pv 0) (pa_cons (pe_op op_fdivB (pv 1) (pv 2)) pa_nil))) (pe_callTy call_int1 rfl B.int bt_int (pa_cons (pe_cmpR op_eq (pe_op op_mod (pv 1) (pv 2)) pe_int (nomark _)) pa_nil)) (fun _ _ => rfl))))))), ?_⟩
  refine ⟨_, rfl, rfl, _, rfl, ?_⟩
  refine ite2 (fun c => ?_) (fun c => ?_)
  · have e : wd = "plus" := V.str.inj (of_decide_eq_true c)
    subst e
    refine ⟨_, rfl, _, rfl, _, _, rfl, rfl, ?_⟩
    exact q H (Same.refl H)
  have c1 : ¬ wd = "plus" := fun e => c (decide_eq_true (congrArg V.str e))
  refine ⟨_, rfl, rfl, _, rfl, ?_⟩
  refine ite2 (fun c => ?_) (fun c => ?_)
  · have e : wd = "times" := V.str.inj (of_decide_eq_true c)
    subst e
    refine ⟨_, rfl, _, rfl, _, _, rfl, rfl, hmul, ?_⟩
    exact q H (Same.refl H)
  have c2 : ¬ wd = "times" := fun e => c (decide_eq_true (congrArg V.str e))
  refine ⟨_, rfl, rfl, _, rfl, ?_⟩
  refine ite2 (fun c => ?_) (fun c => ?_)
  · have e : wd = "less" := V.str.inj (of_decide_eq_true c)
    subst e
    refine ⟨_, rfl, _, rfl, _, rfl, _, _, rfl, rfl, (by show 2 ≤ sizeLine; decide), fun p hp => ?_⟩
    refine ⟨_, rfl, _, rfl, _, _, rfl, rfl, .inr ⟨_, rfl, p, _, _, resV (byE "less" a b), rfl, rfl, SqL.of upd_same, ?_, q _ (Same.new hp)⟩⟩
    by_cases h : b < a
    · rw [decide_eq_true h]
      simp only [byE, if_neg c1, if_neg c2, if_pos h, if_true]
      rfl
    · rw [decide_eq_false h]
      simp only [byE, if_neg c1, if_neg c2, if_neg h, if_true]
      rfl
  have c3 : ¬ wd = "less" := fun e => c (decide_eq_true (congrArg V.str e))
  refine ⟨_, rfl, _, rfl, _, rfl, _, _, rfl, rfl, ⟨by omega, by omega⟩, (by show 2 ≤ sizeLine; decide), fun p hp => ?_⟩
  refine ⟨_, rfl, _, rfl, _, _, rfl, rfl, (by show (0 : Int) < b; omega), rfl, .inr ⟨_, rfl, p, _, _, resV (byE wd a b), rfl, rfl, SqL.of upd_same, ?_, q _ (Same.new hp)⟩⟩
  by_cases h : a % b = 0
  · rw [decide_eq_true (congrArg V.int h)]
    simp only [byE, if_neg c1, if_neg c2, if_neg c3, if_pos h]
    rfl
  · rw [decide_eq_false (fun e => h (V.int.inj e))]
    simp only [byE, if_neg c1, if_neg c2, if_neg c3, if_neg h]
    rfl
abbrev s_law_worth : Stmt := top 37
theorem sc_law_worth : FnScope ["way", "one", "other"] ["way"] (defScope s_law_worth) := ⟨rfl, rfl, rfl, by decide +kernel, rfl, by decide +kernel, by decide +kernel⟩
theorem ok_law_worth_step {n : Nat} {f : Addr} {fd : FuncData} (F : Fun K "_law_worth" "_law_worth" s_law_worth f fd) (B : Blt mg) (Gby : Def P w K mg base CX0 1 "_law_by" spBy) (Gworth : Def P w K mg base CX0 (n + 2) "_law_worth" (spWorth n)) : FnOk P w K mg base CX0 (n + 3) f fd ["way"] (spWorth (n + 1)) := by
  refine F.ok sc_law_worth (fun vs H Q E h => ?_) (fun cdv A outer s H vs Q E hr h => ?_)
  · obtain ⟨v, x, rfl, _⟩ := h
    rfl
  obtain ⟨v, x, rfl, hx, fx, hn, q⟩ := h
  refine ⟨_, (pss_cons (ps_if (pt_val (pe_isin B.isinstance B.int bt_int (pv 0))) (pss_one (ps_ret (pv 0))) pss_nil)
      (pss_cons (ps_set (i := 1) sc_law_worth.nd rfl (by first | exact Or.inl rfl | exact Or.inr rfl) (pe_def Gworth (hr.mono (by omega)) (pa_cons (pe_ix ix_tup (pv 0) pe_int (fun _ _ => rfl)) pa_nil)))
      (pss_cons (ps_set (i := 2) sc_law_worth.nd rfl (by first | exact Or.inl rfl | exact Or.inr rfl) (pv 1))
      (pss_cons (ps_if (pt_not (pt_val (pe_isin B.isinstance B.str bt_str (pv 1)))) (pss_one (ps_set (i := 2) sc_law_worth.nd rfl (by first | exact Or.inl rfl | exact Or.inr rfl) (pe_def Gworth (hr.mono (by omega)) (pa_cons (pe_ix ix_tup (pv 0) pe_int (fun _ _ => rfl)) pa_nil)))) pss_nil)
      (pss_cons (ps_if (pt_val (pe_isin B.isinstance B.str bt_str (pv 2))) (pss_one (ps_ret (pv 2))) pss_nil)
      (pss_one (ps_ret (pe_def Gby (hr.mono (by omega)) (pa_cons (pe_ix ix_tup (pv 0) pe_int (fun _ _ => rfl)) (pa_cons (pv 1) (pa_cons (pv 2) pa_nil))))))))))), ?_⟩
  cases hx with
  | num k =>
    refine ⟨_, rfl, _, _, TyOf.int _, kit_int_int _, _, rfl, iteT ⟨_, rfl, ?_⟩⟩
    exact q H (Same.refl H)
  | @op p wd x y a b h ha hb =>
    obtain ⟨hw, fa, fb⟩ := fx.sub
    have hta : a.ht < n := by have : max a.ht b.ht + 1 < n + 1 := hn; omega
    have htb : b.ht < n := by have : max a.ht b.ht + 1 < n + 1 := hn; omega
    rw [worthE_op] at q
    refine ⟨_, rfl, _, _, TyOf.tup h, kit_tup_int _, _, rfl, iteF ?_⟩
    refine ⟨_, rfl, p, _, _, x, rfl, rfl, SqT.of h, rfl, x, a, rfl, ha, fa, hta, fun H1 s1 => ?_⟩
    cases ea : worthE a with
    | inl e =>
      rw [ea] at q
      refine ⟨_, rfl, ?_⟩
      refine ⟨_, rfl, _, _, TyOf.str _, kit_str_str _, _, rfl, iteF ?_⟩
      refine ⟨_, rfl, _, _, TyOf.str _, kit_str_str _, _, rfl, iteT ⟨_, rfl, ?_⟩⟩
      exact q _ s1
    | inr i =>
      rw [ea] at q
      refine ⟨_, rfl, ?_⟩
      refine ⟨_, rfl, _, _, TyOf.int _, kit_int_str _, _, rfl, iteT ?_⟩
      refine ⟨_, rfl, p, _, _, y, rfl, rfl, SqT.of (s1 _ _ h), rfl, y, b, rfl, hb.kt (KT.same s1), fb, htb, fun H2 s2 => ?_⟩
      cases eb : worthE b with
      | inl e =>
        rw [eb] at q
        refine ⟨_, rfl, _, _, TyOf.str _, kit_str_str _, _, rfl, iteT ⟨_, rfl, ?_⟩⟩
        exact q _ (s1.trans s2)
      | inr j =>
        rw [eb] at q
        have i1 := fa.worth ea
        have j1 := fb.worth eb
        refine ⟨_, rfl, _, _, TyOf.int _, kit_int_str _, _, rfl, iteF ?_⟩
        refine ⟨_, rfl, p, _, _, _, rfl, rfl, SqT.of (s2 _ _ (s1 _ _ h)), rfl, _, rfl, _, rfl, wd, i, j, rfl, hw, i1.1, i1.2, j1.1, j1.2, fun H3 s3 => ?_⟩
        exact q _ (s1.trans (s2.trans s3))
theorem ok_law_worth {f : Addr} {fd : FuncData} (F : Fun K "_law_worth" "_law_worth" s_law_worth f fd) (b : Binds K fd ["way"] []) (m : mg "_law_worth" = some (.ref f)) (B : Blt mg) (Gby : Def P w K mg base CX0 1 "_law_by" spBy) : ∀ n, FnOk P w K mg base CX0 (n + 2) f fd ["way"] (spWorth n)
  | 0 => by
    have no : ∀ vs H Q E, ¬ spWorth 0 vs H Q E := fun vs H Q E h => by
      obtain ⟨v, x, _, _, _, h, _⟩ := h
      omega
    exact ⟨fun vs H Q E h => absurd h (no vs H Q E), fun A outer s H args us vs Q E _ _ _ _ h => absurd h (no vs H Q E)⟩
  | n + 1 => ok_law_worth_step F B Gby (mkDef (ok_law_worth F b m B Gby n) b m F.kp)
abbrev s_law_good_way : Stmt := top 39
theorem sc_law_good_way : FnScope ["deck", "many", "first", "one", "other", "word", "way"] ["deck", "many"] (defScope s_law_good_way) := ⟨rfl, rfl, rfl, by decide +kernel, rfl, by decide +kernel, by decide +kernel⟩
theorem okw_of {r : Int} (h0 : 0 ≤ r) (h1 : r < 4) : ∃ wd : Str, atI [V.str "plus", V.str "less", V.str "times", V.str "share"] r = some (.str wd) ∧ okWord wd := by
  obtain ⟨v, hv, hm⟩ := atI_mem (xs := [V.str "plus", V.str "less", V.str "times", V.str "share"]) h0 (by exact h1)
  simp only [List.mem_cons, List.not_mem_nil, or_false] at hm
  rcases hm with rfl | rfl | rfl | rfl
  · exact ⟨_, hv, .inl rfl⟩
  · exact ⟨_, hv, .inr (.inl rfl)⟩
  · exact ⟨_, hv, .inr (.inr (.inl rfl))⟩
  · exact ⟨_, hv, .inr (.inr (.inr rfl))⟩
theorem ok_law_good_step {n : Nat} {f : Addr} {fd : FuncData} (F : Fun K "_law_good_way" "_law_good_way" s_law_good_way f fd) (B : Blt mg) (Gtake : Def P w K mg base CX0 1 "_law_take" spTake) (Gnumber : Def P w K mg base CX0 2 "_law_number" (spDraw 1000000))
    (Gby : Def P w K mg base CX0 1 "_law_by" spBy) (Gworth : Def P w K mg base CX0 12 "_law_worth" (spWorth 10)) (Ggood : Def P w K mg base CX0 (n + 13) "_law_good_way" (spGood n)) : FnOk P w K mg base CX0 (n + 14) f fd ["deck", "many"] (spGood (n + 1)) := by
  refine F.ok sc_law_good_way (fun vs H Q E h => ?_) (fun cdv A outer s H vs Q E hr h => ?_)
  · obtain ⟨d, c, many, rfl, _⟩ := h
    rfl
  obtain ⟨d, c, many, rfl, D, m1, m8, mn, q⟩ := h
  refine ⟨_, (pss_cons (ps_if (pt_cmpR op_eq (pv 1) pe_int (nomark _)) (pss_one (ps_ret (pe_def Gnumber (hr.mono (by omega)) (pa_cons (pv 0) pa_nil)))) pss_nil)
      (pss_cons (ps_set (i := 2) sc_law_good_way.nd rfl (by first | exact Or.inl rfl | exact Or.inr rfl) (pe_op op_add pe_int (pe_def Gtake (hr.mono (by omega)) (pa_cons (pv 0) (pa_cons (pe_op op_sub (pv 1) pe_int) pa_nil)))))
      (pss_cons (ps_set (i := 3) sc_law_good_way.nd rfl (by first | exact Or.inl rfl | exact Or.inr rfl) (pe_def Ggood (hr.mono (by omega)) (pa_cons (pv 0) (pa_cons (pv 2) pa_nil))))
      (pss_cons (ps_set (i := 4) sc_law_good_way.nd rfl (by first | exact Or.inl rfl | exact Or.inr rfl) (pe_def Ggood (hr.mono (by omega)) (pa_cons (pv 0) (pa_cons (pe_op op_sub (pv 1) (pv 2)) pa_nil))))
      (pss_cons (ps_set (i := 5) sc_law_good_way.nd rfl (by first | exact Or.inl rfl | exact Or.inr rfl) (pe_ix ix_list (pe_lst (pa_cons pe_str (pa_cons pe_str (pa_cons pe_str (pa_cons pe_str pa_nil))))) (pe_def Gtake (hr.mono (by omega)) (pa_cons (pv 0) (pa_cons pe_int pa_nil))) (fun _ _ => rfl)))
      (pss_cons (ps_for PassesOwn.never rfl (pi_list (pe_lst (pa_cons (pe_tup (pa_cons (pv 5) (pa_cons (pv 3) (pa_cons (pv 4) pa_nil)))) (pa_cons (pe_tup (pa_cons (pv 5) (pa_cons (pv 4) (pa_cons (pv 3) pa_nil)))) pa_nil)))) (pg_name (i := 6) sc_law_good_way.nd rfl (by first | exact Or.inl rfl | exact Or.inr rfl)) (pss_one (ps_if (pt_not (pt_val (pe_isin B.isinstance B.str bt_str (pe_def Gby (hr.mono (by omega)) (pa_cons (pv 5) (pa_cons (pe_def Gworth (hr.mono (by omega)) (pa_cons (pe_ix ix_tup (pv 6) pe_int (fun _ _ => rfl)) pa_nil)) (pa_cons (pe_def Gworth (hr.mono (by omega)) (pa_cons (pe_ix ix_tup (pv 6) pe_int (fun _ _ => rfl)) pa_nil)) pa_nil))))))) (pss_one (ps_ret (pv 6))) pss_nil)))
      (pss_one (ps_ret (pe_tup (pa_cons (pe_ix ix_list (pe_lst (pa_cons (pe_ix ix_list (pe_lst (pa_cons pe_str (pa_cons pe_str pa_nil))) (pe_callTy call_int1 rfl B.int bt_int (pa_cons (pe_cmpR op_eq (pv 5) pe_str (nomark _)) pa_nil)) (fun _ _ => rfl)) (pa_cons pe_str pa_nil))) (pe_callTy call_int1 rfl B.int bt_int (pa_cons (pe_cmpR op_gt (pe_def Gworth (hr.mono (by omega)) (pa_cons (pv 3) pa_nil)) (pe_op op_pow pe_int pe_int) (nomark _)) pa_nil)) (fun _ _ => rfl)) (pa_cons (pv 3) (pa_cons (pv 4) pa_nil)))))))))))), ?_⟩
  refine ⟨_, rfl, rfl, _, rfl, ?_⟩
  refine ite2 (fun e => ?_) (fun e => ?_)
  · have e1 : many = 1 := V.int.inj (of_decide_eq_true e)
    refine ⟨_, rfl, d, c, rfl, D, fun r H1 r1 r2 k1 D1 => ?_⟩
    exact q (.int r) (.num r) r H1 (.num r) ⟨r1, r2⟩ e1.symm rfl k1 D1
  have e1 : many ≠ 1 := fun z => e (decide_eq_true (congrArg V.int z))
  -- first
  refine ⟨_, rfl, _, rfl, _, _, rfl, rfl, d, c, _, rfl, D, by omega, by omega, fun r H1 r1 r2 k1 D1 => ⟨_, _, rfl, rfl, ?_⟩⟩
  -- one, other
  refine ⟨_, rfl, _, rfl, d, c, _, rfl, D1, by omega, by omega, by omega, fun v1 x1 n1 H2 w1 o1 z1 e1 k2 D2 => ?_⟩
  refine ⟨_, rfl, _, rfl, _, rfl, _, _, rfl, rfl, d, c, _, rfl, D2, by omega, by omega, by omega, fun v2 x2 n2 H3 w2 o2 z2 e2 k3 D3 => ?_⟩
  -- word
  refine ⟨(by show 4 ≤ sizeLine; decide), fun p hp => ⟨_, rfl, d, c, 4, rfl, D3.new hp, by decide, by decide, fun r4 H4 a4 b4 k4 D4 => ?_⟩⟩
  obtain ⟨wd, hwd, hw⟩ := okw_of a4 b4
  refine ⟨p, _, _, _, rfl, rfl, SqL.of (k4 _ _ upd_same (D3.nin hp)), hwd, ?_⟩
  have kt34 : KT H3 H4 := (KT.new hp).trans ((D3.new hp).kt k4)
  have w1' : WayIn H4 v1 x1 := (w1.kt (D2.kt k3)).kt kt34
  have w2' : WayIn H4 v2 x2 := w2.kt kt34
  have kk : Keep [d, c] H H4 := k1.trans (k2.trans (k3.trans ((Keep.new hp).trans k4)))
  have s1 := x1.size_pos
  have s2 := x2.size_pos
  have f1 : x1.fit := fit_of o1 (by omega)
  have f2 : x2.fit := fit_of o2 (by omega)
  have t1 : x1.ht < 10 := by have := x1.ht_lt; omega
  have t2 : x2.ht < 10 := by have := x2.ht_lt; omega
  have b1 := f1.worth e1
  have b2 := f2.worth e2
  -- the two tuples
  refine ⟨_, rfl, _, rfl, _, rfl, (by show 3 ≤ sizeLine; decide), fun ta hta => ⟨_, rfl, _, rfl, _, rfl, (by show 3 ≤ sizeLine; decide), fun tb htb => ⟨(by show 2 ≤ sizeLine; decide), fun l hl => ?_⟩⟩⟩
  have h1 : (upd (upd H4 ta (.tup [.str wd, v1, v2])) tb (.tup [.str wd, v2, v1])) ta = some (.tup [.str wd, v1, v2]) := by
    rw [upd_ne (ne_of_none upd_same htb), upd_same]
  have h2 : (upd (upd H4 ta (.tup [.str wd, v1, v2])) tb (.tup [.str wd, v2, v1])) tb = some (.tup [.str wd, v2, v1]) := upd_same
  have sH : Same H4 (upd (upd (upd H4 ta (.tup [.str wd, v1, v2])) tb (.tup [.str wd, v2, v1])) l (.lst [.ref ta, .ref tb])) := (Same.new hta).trans ((Same.new htb).trans (Same.new hl))
  have h1' := Same.new (o := .lst [.ref ta, .ref tb]) hl _ _ h1
  have h2' := Same.new (o := .lst [.ref ta, .ref tb]) hl _ _ h2
  refine ⟨l, rfl, ⟨_, SqL.of upd_same⟩, for_list (K := K) (a := l) (xs := [.ref ta, .ref tb])
    (fun i σ H' => ∃ (z : Option V), σ = [some (.ref d), some (.int many), some (.int (1 + r)), some v1, some v2, some (.str wd), z] ∧ Same H4 H' ∧ H' ta = some (.tup [.str wd, v1, v2]) ∧ H' tb = some (.tup [.str wd, v2, v1]) ∧ H' l = some (.lst [.ref ta, .ref tb]))
    ⟨none, rfl, sH, h1', h2', upd_same⟩ (fun i σ H' _ ⟨_, _, _, _, _, g⟩ => SqL.of g) ?_ ?_⟩
  · rintro i y σ H' hi ⟨z, rfl, sH', g1, g2, g3⟩
    obtain ⟨t, va, vb, xa, xb, na, nb, ey, ht, wa, wb, fa, fb, ta', tb', ea, eb, oa, ob, zz⟩ : ∃ (t : Addr) (va vb : V) (xa xb : Way) (na nb : Int), y = .ref t ∧ H' t = some (.tup [.str wd, va, vb]) ∧ WayIn H' va xa ∧ WayIn H' vb xb ∧ xa.fit ∧ xb.fit ∧ xa.ht < 10 ∧ xb.ht < 10 ∧ worthE xa = .inr na ∧ worthE xb = .inr nb ∧ xa.ok 1000000 ∧ xb.ok 1000000 ∧ ((xa.size + xb.size : Nat) : Int) = many := by
      match i, hi with
      | 0, hi =>
        cases hi
        exact ⟨ta, v1, v2, x1, x2, n1, n2, rfl, g1, w1'.kt (KT.same sH'), w2'.kt (KT.same sH'), f1, f2, t1, t2, e1, e2, o1, o2, by omega⟩
      | 1, hi =>
        cases hi
        exact ⟨tb, v2, v1, x2, x1, n2, n1, rfl, g2, w2'.kt (KT.same sH'), w1'.kt (KT.same sH'), f2, f1, t2, t1, e2, e1, o2, o1, by omega⟩
      | i + 2, hi => cases hi
    subst ey
    have ba := fa.worth ea
    have bb := fb.worth eb
    refine ⟨_, rfl, _, rfl, t, _, _, _, rfl, rfl, SqT.of ht, rfl, va, xa, rfl, wa, fa, ta', fun H5 s5 => ?_⟩
    rw [ea]
    refine ⟨_, rfl, t, _, _, _, rfl, rfl, SqT.of (s5 _ _ ht), rfl, vb, xb, rfl, wb.kt (KT.same s5), fb, tb', fun H6 s6 => ?_⟩
    rw [eb]
    refine ⟨wd, na, nb, rfl, hw, ba.1, ba.2, bb.1, bb.2, fun H7 s7 => ?_⟩
    have s57 : Same H' H7 := s5.trans (s6.trans s7)
    cases e : byE wd na nb with
    | inr k =>
      refine ⟨_, _, TyOf.int _, kit_int_str _, _, rfl, iteT ⟨_, rfl, ?_⟩⟩
      refine q (.ref t) (.op wd xa xb) k H7 (.op (s57 _ _ ht) (wa.kt (KT.same s57)) (wb.kt (KT.same s57))) ⟨hw, oa, ob⟩ zz ?_ (kk.trans ((Keep.same sH').trans (Keep.same s57))) ((D4.same sH').same s57)
      rw [worthE_op, ea, eb]
      exact e
    | inl e =>
      refine ⟨_, _, TyOf.str _, kit_str_str _, _, rfl, iteF ?_⟩
      exact ⟨_, rfl, sH'.trans s57, s57 _ _ g1, s57 _ _ g2, s57 _ _ g3⟩
  · rintro σ H' ⟨z, rfl, sH', g1, g2, g3⟩
    refine ⟨(by show 2 ≤ sizeLine; decide), fun p5 hp5 => ⟨_, rfl, rfl, .inr ⟨_, rfl, p5, _, _, .str (if wd = "less" then "plus" else "times"), rfl, rfl, SqL.of upd_same, ?_, (by show 2 ≤ sizeLine; decide), fun p6 hp6 => ?_⟩⟩⟩
    · by_cases h : wd = "less"
      · rw [decide_eq_true (congrArg V.str h), if_pos h]
        rfl
      · rw [decide_eq_false (fun e => h (V.str.inj e)), if_neg h]
        rfl
    have s56 : Same H' (upd (upd H' p5 (.lst [.str "times", .str "plus"])) p6 (.lst [.str (if wd = "less" then "plus" else "times"), .str "plus"])) := (Same.new hp5).trans (Same.new hp6)
    refine ⟨_, rfl, v1, x1, rfl, w1'.kt (KT.same (sH'.trans s56)), f1, t1, fun H7 s7 => ?_⟩
    rw [e1]
    obtain ⟨wd2, hwd2, hv2⟩ : ∃ wd2 : Str, (wd2 = "plus" ∨ wd2 = "times") ∧ atI [V.str (if wd = "less" then "plus" else "times"), V.str "plus"] (if decide ((10 : Int) ^ (40 : Int).toNat < n1) then 1 else 0) = some (.str wd2) := by
      by_cases h : (10 : Int) ^ (40 : Int).toNat < n1
      · rw [decide_eq_true h]
        exact ⟨"plus", .inl rfl, rfl⟩
      · rw [decide_eq_false h]
        by_cases h2 : wd = "less"
        · rw [if_pos h2]
          exact ⟨"plus", .inl rfl, rfl⟩
        · rw [if_neg h2]
          exact ⟨"times", .inr rfl, rfl⟩
    refine ⟨_, _, rfl, rfl, ⟨by decide, by decide, by decide⟩, _, _, rfl, rfl, .inr ⟨_, rfl, p6, _, _, _, rfl, rfl, SqL.of (s7 _ _ upd_same), hv2, _, rfl, _, rfl, (by show 3 ≤ sizeLine; decide), fun t ht => ?_⟩⟩
    have sA : Same H4 H7 := sH'.trans (s56.trans s7)
    have sB : Same H7 (upd H7 t (.tup [.str wd2, v1, v2])) := Same.new ht
    have okw : okWord wd2 := hwd2.elim .inl fun h => .inr (.inr (.inl h))
    obtain ⟨k, hk⟩ : ∃ k, byE wd2 n1 n2 = .inr k := by
      rcases hwd2 with h | h
      · exact ⟨n1 + n2, by unfold byE; rw [if_pos h]⟩
      · subst h
        exact ⟨n1 * n2, by unfold byE; rw [if_neg (by decide +kernel), if_pos rfl]⟩
    refine q (.ref t) (.op wd2 x1 x2) k _ (.op upd_same (w1'.kt (KT.same (sA.trans sB))) (w2'.kt (KT.same (sA.trans sB)))) ⟨okw, o1, o2⟩ (by show ((x1.size + x2.size : Nat) : Int) = many; omega) ?_ (kk.trans (Keep.same (sA.trans sB))) (D4.same (sA.trans sB))
    rw [worthE_op, e1, e2]
    exact hk
theorem ok_law_good {f : Addr} {fd : FuncData} (F : Fun K "_law_good_way" "_law_good_way" s_law_good_way f fd) (b : Binds K fd ["deck", "many"] []) (m : mg "_law_good_way" = some (.ref f)) (B : Blt mg) (Gtake : Def P w K mg base CX0 1 "_law_take" spTake) (Gnumber : Def P w K mg base CX0 2 "_law_number" (spDraw 1000000))
    (Gby : Def P w K mg base CX0 1 "_law_by" spBy) (Gworth : Def P w K mg base CX0 12 "_law_worth" (spWorth 10)) : ∀ n, FnOk P w K mg base CX0 (n + 13) f fd ["deck", "many"] (spGood n)
  | 0 => by
    have no : ∀ vs H Q E, ¬ spGood 0 vs H Q E := fun vs H Q E h => by
      obtain ⟨d, c, many, _, _, h1, _, h2, _⟩ := h
      omega
    exact ⟨fun vs H Q E h => absurd h (no vs H Q E), fun A outer s H args us vs Q E _ _ _ _ h => absurd h (no vs H Q E)⟩
  | n + 1 => ok_law_good_step F B Gtake Gnumber Gby Gworth (mkDef (ok_law_good F b m B Gtake Gnumber Gby Gworth n) b m F.kp)
abbrev s_law_any_way : Stmt := top 38
theorem sc_law_any_way : FnScope ["deck", "many", "first", "word"] ["deck", "many"] (defScope s_law_any_way) := ⟨rfl, rfl, rfl, by decide +kernel, rfl, by decide +kernel, by decide +kernel⟩
theorem ok_law_any_step {n : Nat} {f : Addr} {fd : FuncData} (F : Fun K "_law_any_way" "_law_any_way" s_law_any_way f fd) (B : Blt mg) (Gtake : Def P w K mg base CX0 1 "_law_take" spTake) (Gnumber : Def P w K mg base CX0 2 "_law_number" (spDraw 1000000))
    (Gany : Def P w K mg base CX0 (n + 3) "_law_any_way" (spAny n)) : FnOk P w K mg base CX0 (n + 4) f fd ["deck", "many"] (spAny (n + 1)) := by
  refine F.ok sc_law_any_way (fun vs H Q E h => ?_) (fun cdv A outer s H vs Q E hr h => ?_)
  · obtain ⟨d, c, many, rfl, _⟩ := h
    rfl
  obtain ⟨d, c, many, rfl, D, m1, m8, mn, q⟩ := h
  refine ⟨_, (pss_cons (ps_if (pt_cmpR op_eq (pv 1) pe_int (nomark _)) (pss_one (ps_ret (pe_def Gnumber (hr.mono (by omega)) (pa_cons (pv 0) pa_nil)))) pss_nil)
      (pss_cons (ps_set (i := 2) sc_law_any_way.nd rfl (by first | exact Or.inl rfl | exact Or.inr rfl) (pe_op op_add pe_int (pe_def Gtake (hr.mono (by omega)) (pa_cons (pv 0) (pa_cons (pe_op op_sub (pv 1) pe_int) pa_nil)))))
      (pss_cons (ps_set (i := 3) sc_law_any_way.nd rfl (by first | exact Or.inl rfl | exact Or.inr rfl) (pe_ix ix_list (pe_lst (pa_cons pe_str (pa_cons pe_str (pa_cons pe_str (pa_cons pe_str pa_nil))))) (pe_def Gtake (hr.mono (by omega)) (pa_cons (pv 0) (pa_cons pe_int pa_nil))) (fun _ _ => rfl)))
      (pss_one (ps_ret (pe_tup (pa_cons (pv 3) (pa_cons (pe_def Gany (hr.mono (by omega)) (pa_cons (pv 0) (pa_cons (pv 2) pa_nil))) (pa_cons (pe_def Gany (hr.mono (by omega)) (pa_cons (pv 0) (pa_cons (pe_op op_sub (pv 1) (pv 2)) pa_nil))) pa_nil))))))))), ?_⟩
  refine ⟨_, rfl, rfl, _, rfl, ?_⟩
  refine ite2 (fun e => ?_) (fun e => ?_)
  · have e1 : many = 1 := V.int.inj (of_decide_eq_true e)
    refine ⟨_, rfl, d, c, rfl, D, fun r H1 r1 r2 k1 D1 => ?_⟩
    exact q (.int r) (.num r) H1 (.num r) ⟨r1, r2⟩ e1.symm k1 D1
  have e1 : many ≠ 1 := fun z => e (decide_eq_true (congrArg V.int z))
  refine ⟨_, rfl, _, rfl, _, _, rfl, rfl, d, c, _, rfl, D, by omega, by omega, fun r H1 r1 r2 k1 D1 => ⟨_, _, rfl, rfl, ?_⟩⟩
  refine ⟨(by show 4 ≤ sizeLine; decide), fun p hp => ⟨_, rfl, d, c, 4, rfl, D1.new hp, by decide, by decide, fun r4 H4 a4 b4 k4 D4 => ?_⟩⟩
  obtain ⟨wd, hwd, hw⟩ := okw_of a4 b4
  refine ⟨p, _, _, _, rfl, rfl, SqL.of (k4 _ _ upd_same (D1.nin hp)), hwd, ?_⟩
  refine ⟨_, rfl, _, rfl, _, rfl, d, c, _, rfl, D4, by omega, by omega, by omega, fun v1 x1 H5 w1 o1 z1 k5 D5 => ?_⟩
  refine ⟨_, rfl, _, rfl, _, rfl, _, _, rfl, rfl, d, c, _, rfl, D5, by omega, by omega, by omega, fun v2 x2 H6 w2 o2 z2 k6 D6 => ⟨(by show 3 ≤ sizeLine; decide), fun t ht => ?_⟩⟩
  have kk : Keep [d, c] H H6 := k1.trans ((Keep.new hp).trans (k4.trans (k5.trans k6)))
  exact q (.ref t) (.op wd x1 x2) _ (.op upd_same ((w1.kt (D5.kt k6)).kt (KT.new ht)) (w2.kt (KT.new ht))) ⟨hw, o1, o2⟩ (by show ((x1.size + x2.size : Nat) : Int) = many; omega) (kk.trans (Keep.new ht)) (D6.new ht)
theorem ok_law_any {f : Addr} {fd : FuncData} (F : Fun K "_law_any_way" "_law_any_way" s_law_any_way f fd) (b : Binds K fd ["deck", "many"] []) (m : mg "_law_any_way" = some (.ref f)) (B : Blt mg) (Gtake : Def P w K mg base CX0 1 "_law_take" spTake) (Gnumber : Def P w K mg base CX0 2 "_law_number" (spDraw 1000000)) :
    ∀ n, FnOk P w K mg base CX0 (n + 3) f fd ["deck", "many"] (spAny n)
  | 0 => by
    have no : ∀ vs H Q E, ¬ spAny 0 vs H Q E := fun vs H Q E h => by
      obtain ⟨d, c, many, _, _, h1, _, h2, _⟩ := h
      omega
    exact ⟨fun vs H Q E h => absurd h (no vs H Q E), fun A outer s H args us vs Q E _ _ _ _ h => absurd h (no vs H Q E)⟩
  | n + 1 => ok_law_any_step F B Gtake Gnumber (mkDef (ok_law_any F b m B Gtake Gnumber n) b m F.kp)
abbrev s_steps_of : Stmt := top 10
theorem sc_steps_of : FnScope ["way", "steps", "waiting", "part", "word", "first", "second"] ["way"] (defScope s_steps_of) := ⟨rfl, rfl, rfl, by decide +kernel, rfl, by decide +kernel, by decide +kernel⟩
theorem ok_steps_of {f : Addr} {fd : FuncData} (F : Fun K "steps_of" "steps_of" s_steps_of f fd) (B : Blt mg) : FnOk P w K mg base CX0 1 f fd ["way"] spSteps := by
  refine F.ok sc_steps_of (fun vs H Q E h => ?_) (fun cdv A outer s H vs Q E hr h => ?_)
  · obtain ⟨v, x, rfl, _⟩ := h
    rfl
  obtain ⟨v, x, rfl, hx, hn, q⟩ := h
  refine ⟨_, (pss_cons (ps_set (i := 1) sc_steps_of.nd rfl (by first | exact Or.inl rfl | exact Or.inr rfl) (pe_lst pa_nil))
      (pss_cons (ps_set (i := 2) sc_steps_of.nd rfl (by first | exact Or.inl rfl | exact Or.inr rfl) (pe_lst (pa_cons (pv 0) pa_nil)))
      (pss_cons (ps_while PassesOwn.never (pt_truth (pv 2) (fun _ => rfl)) (pss_cons (ps_set (i := 3) sc_steps_of.nd rfl (by first | exact Or.inl rfl | exact Or.inr rfl) (pe_bm0 PySem.F.plainAttrs_list PySem.F.slot_list_pop PySem.F.type_list_pop mt_pop (pv 2)))
      (pss_one (ps_if (pt_val (pe_isin B.isinstance B.tuple bt_tuple (pv 3))) (pss_cons (ps_asg (pv 3) (pg_tup rfl (pgs_cons (pg_name (i := 4) sc_steps_of.nd rfl (by first | exact Or.inl rfl | exact Or.inr rfl)) (pgs_cons (pg_name (i := 5) sc_steps_of.nd rfl (by first | exact Or.inl rfl | exact Or.inr rfl)) (pgs_cons (pg_name (i := 6) sc_steps_of.nd rfl (by first | exact Or.inl rfl | exact Or.inr rfl)) pgs_nil)))))
      (pss_cons (ps_expr (pe_bm PySem.F.plainAttrs_list PySem.F.slot_list_append PySem.F.type_list_append mt_append (pv 1) (pa_cons (pv 4) pa_nil)))
      (pss_cons (ps_expr (pe_bm PySem.F.plainAttrs_list PySem.F.slot_list_append PySem.F.type_list_append mt_append (pv 2) (pa_cons (pv 5) pa_nil)))
      (pss_one (ps_expr (pe_bm PySem.F.plainAttrs_list PySem.F.slot_list_append PySem.F.type_list_append mt_append (pv 2) (pa_cons (pv 6) pa_nil))))))) (pss_one (ps_expr (pe_bm PySem.F.plainAttrs_list PySem.F.slot_list_append PySem.F.type_list_append mt_append (pv 1) (pa_cons (pv 3) pa_nil))))))))
      (pss_one (ps_ret (pe_rev (pv 1))))))), ?_⟩
  refine ⟨(by show 0 ≤ sizeLine; decide), fun ps hps => ⟨_, rfl, (by show 1 ≤ sizeLine; decide), fun pw hpw => ?_⟩⟩
  have hs1 : (upd (upd H ps (.lst [])) pw (.lst [v])) ps = some (.lst []) := by rw [upd_ne (ne_of_none upd_same hpw), upd_same]
  have npw : H pw = none := (Same.new hps).free hpw
  have nsw : ps ≠ pw := ne_of_none upd_same hpw
  refine ⟨fun m σ H' => ∃ (vr : List V) (wr : List Way) (st : List V) (a b c d : Option V), σ = [some v, some (.ref ps), some (.ref pw), a, b, c, d] ∧ Same H H' ∧ H' ps = some (.lst st) ∧ H' pw = some (.lst vr.reverse) ∧ Paired (WayIn H) vr wr ∧ st ++ wr.flatMap emit = emit x ∧ m = sumNodes wr,
    ⟨_, [v], [x], [], none, none, none, none, rfl, (Same.new hps).trans (Same.new hpw), hs1, upd_same, .cons hx .nil, by simp, rfl⟩, ?_⟩
  rintro m σ H' ⟨vr, wr, st, a, b, c, d, rfl, sH, h1, h2, pr, eq, em⟩
  have lenAll : st.length + sumNodes wr = x.nodes := by rw [← emits_len, ← List.length_append, eq, emit_len]
  have lenW := len_le_nodes wr
  have lenV : vr.length = wr.length := pr.length
  refine ⟨_, rfl, _, .inl ⟨_, SqL.of h2, rfl⟩, ?_⟩
  cases pr with
  | nil =>
    refine iteF ?_
    have e : st = emit x := by simpa using eq
    refine ⟨_, rfl, ps, _, rfl, SqL.of h1, fun p hp => ?_⟩
    refine q p _ (sH.trans (Same.new hp)) ?_
    rw [upd_same, e, emit_rev]
  | @cons y z vr' wr' hy pr' =>
    have e2 : (y :: vr').reverse = vr'.reverse ++ [y] := List.reverse_cons
    have sn : sumNodes (z :: wr') = z.nodes + sumNodes wr' := by simp [sumNodes]
    rw [sn] at lenAll em
    have lv' : vr'.length = wr'.length := pr'.length
    have lw' := len_le_nodes wr'
    have np := nodes_pos z
    rw [e2] at h2
    refine (show (if _ then _ else _ : Prop) from ?_)
    have ne : (!((y :: vr').reverse).isEmpty) = true := by rw [e2]; simp
    rw [if_pos ne]
    refine ⟨fun σ' H' => ∃ m', m' < m ∧ ∃ (vr : List V) (wr : List Way) (st : List V) (a b c d : Option V), σ' = [some v, some (.ref ps), some (.ref pw), a, b, c, d] ∧ Same H H' ∧ H' ps = some (.lst st) ∧ H' pw = some (.lst vr.reverse) ∧ Paired (WayIn H) vr wr ∧ st ++ wr.flatMap emit = emit x ∧ m' = sumNodes wr, fun σ' H' h => h, ?_⟩
    -- part = waiting.pop()
    refine ⟨_, rfl, .inl ⟨rfl, _, SqL.of h2⟩, pw, _, y, rfl, rfl, h2, (by simp), ?_⟩
    rw [List.dropLast_concat]
    have h1a : (upd H' pw (.lst vr'.reverse)) ps = some (.lst st) := by rw [upd_ne nsw]; exact h1
    have h2a : (upd H' pw (.lst vr'.reverse)) pw = some (.lst vr'.reverse) := upd_same
    have sHa : Same H (upd H' pw (.lst vr'.reverse)) := fun b o e => by rw [upd_ne (ne_of_none e npw)]; exact sH b o e
    have nps : H ps = none := hps
    have big : ∀ k : Nat, k ≤ 1000 → k < sizeLine := fun k => small1000
    cases hy with
    | num n =>
      refine ⟨_, rfl, _, _, TyOf.int _, kit_int_tuple _, _, rfl, iteF ?_⟩
      refine ⟨_, rfl, .inl ⟨rfl, _, SqL.of h1a⟩, _, rfl, ps, st, _, rfl, rfl, h1a, big _ (by omega), ?_⟩
      refine ⟨sumNodes wr', by omega, vr', wr', st ++ [.int n], _, _, _, _, rfl, ?_, upd_same, ?_, pr', ?_, rfl⟩
      · exact fun b o e => by rw [upd_ne (ne_of_none e nps)]; exact sHa b o e
      · rw [upd_ne nsw.symm]; exact h2a
      · rw [List.append_assoc]; exact eq
    | @op p wd x1 y1 a1 b1 h ha hb =>
      refine ⟨_, rfl, _, _, TyOf.tup (sHa _ _ h), kit_tup_tup _, _, rfl, iteT ?_⟩
      refine ⟨_, rfl, p, _, rfl, SqT.of (sHa _ _ h), rfl, _, _, rfl, _, _, rfl, _, _, rfl, rfl, ?_⟩
      refine ⟨_, rfl, .inl ⟨rfl, _, SqL.of h1a⟩, _, rfl, ps, st, _, rfl, rfl, h1a, big _ (by omega), ?_⟩
      have h2b : (upd (upd H' pw (.lst vr'.reverse)) ps (.lst (st ++ [.str wd]))) pw = some (.lst vr'.reverse) := by rw [upd_ne nsw.symm]; exact h2a
      have nd : (Way.op wd a1 b1).nodes = a1.nodes + b1.nodes + 1 := rfl
      have n1 := nodes_pos a1
      have n2 := nodes_pos b1
      refine ⟨_, rfl, .inl ⟨rfl, _, SqL.of h2b⟩, _, rfl, pw, _, _, rfl, rfl, h2b, big _ (by rw [List.length_reverse]; omega), ?_⟩
      refine ⟨_, rfl, .inl ⟨rfl, _, SqL.of upd_same⟩, _, rfl, pw, _, _, rfl, rfl, upd_same, big _ (by rw [List.length_append, List.length_reverse]; show vr'.length + 1 ≤ 1000; omega), ?_⟩
      refine ⟨b1.nodes + (a1.nodes + sumNodes wr'), by omega, y1 :: x1 :: vr', b1 :: a1 :: wr', st ++ [.str wd], _, _, _, _, rfl, ?_, ?_, ?_, .cons hb (.cons ha pr'), ?_, by simp [sumNodes]⟩
      · exact fun b o e => by rw [upd_ne (ne_of_none e npw), upd_ne (ne_of_none e npw), upd_ne (ne_of_none e nps)]; exact sHa b o e
      · rw [upd_ne nsw, upd_ne nsw, upd_same]
      · rw [upd_same, List.reverse_cons, List.reverse_cons]
      · rw [← eq, List.append_assoc, List.flatMap_cons, List.flatMap_cons, List.flatMap_cons, emit]
        simp
abbrev s_deeds_of : Stmt := top 15
theorem sc_deeds_of : FnScope ["way"] ["way"] (defScope s_deeds_of) := ⟨rfl, rfl, rfl, by decide +kernel, rfl, by decide +kernel, by decide +kernel⟩
theorem ok_deeds_of {f : Addr} {fd : FuncData} (F : Fun K "deeds_of" "deeds_of" s_deeds_of f fd) (B : Blt mg) (Gsteps : Def P w K mg base CX0 1 "steps_of" spSteps) : FnOk P w K mg base CX0 2 f fd ["way"] spDeeds := by
  refine F.ok sc_deeds_of (fun vs H Q E h => ?_) (fun cdv A outer s H vs Q E hr h => ?_)
  · obtain ⟨v, x, rfl, _⟩ := h
    rfl
  obtain ⟨v, x, rfl, hx, hn, q⟩ := h
  refine ⟨_, (pss_one (ps_ret (pe_callB call_len_seq rfl B.len bt_len (pa_cons (pe_comp (N := ["step"]) rfl (cs_of [none] rfl (by decide +kernel) (by decide +kernel) rfl rfl) rfl (pi_list (pe_def Gsteps (hr.mono (by omega)) (pa_cons (pv 0) pa_nil))) (fun _ _ _ _ => (pg_name (i := 0) (show (["step"] : List Str).Nodup by decide +kernel) rfl (by first | exact Or.inl rfl | exact Or.inr rfl))) (fun _ _ _ _ => (ptl_one (pt_val (pe_isin B.isinstance B.str bt_str (pv 0))))) (fun _ _ _ _ => (pv 0))) pa_nil)))), ?_⟩
  refine ⟨_, rfl, v, x, rfl, hx, hn, fun r H2 s2 hr2 => ⟨r, rfl, ⟨_, SqL.of hr2⟩, fun Dl hD C s3 fp => comp_list (K := K) (a := r) (xs := post x)
    (fun i ys σ H' => ∃ z, σ = [z] ∧ Same H H' ∧ H' r = some (.lst (post x)) ∧ ys = ((post x).take i).filter isS) (fun i ys σ H' ⟨_, _, _, g, _⟩ => SqL.of g) ⟨none, rfl, s2.trans (Same.new hD), Same.new hD _ _ hr2, rfl⟩ ?_ ?_⟩⟩
  · rintro i y ys σ H' hi hl ⟨z, rfl, sH, g, ey⟩ e
    have nrd : r ≠ Dl := ne_of_none hr2 hD
    have nD : H Dl = none := s2.free hD
    have tf := take_filter (p := isS) hi
    have pl := post_len x
    have il : i < (post x).length := (List.getElem?_eq_some_iff.mp hi).1
    rcases post_kind (List.mem_of_getElem? hi) with ⟨k, rfl⟩ | ⟨wd, rfl⟩
    · refine ⟨_, rfl, _, _, TyOf.int _, kit_int_str _, _, rfl, iteF ?_⟩
      refine ⟨ys, Nat.le_succ_of_le hl, ⟨_, rfl, sH, g, ?_⟩, e⟩
      rw [tf, ey]
      show _ = _ ++ []
      rw [List.append_nil]
    · refine ⟨_, rfl, _, _, TyOf.str _, kit_str_str _, _, rfl, iteT ?_⟩
      refine ⟨_, rfl, ys, e, small1000 (by omega), ?_⟩
      refine ⟨_, by rw [List.length_append]; exact Nat.add_le_add_right hl 1, ⟨_, rfl, fun b o eb => ?_, ?_, ?_⟩, upd_same⟩
      · rw [upd_ne (ne_of_none eb nD)]; exact sH b o eb
      · rw [upd_ne nrd]; exact g
      · rw [tf, ey]; rfl
  · rintro ys σ H' ⟨z, rfl, sH, g, ey⟩ e
    refine ⟨Dl, ys, rfl, .inl (SqL.of e), ?_⟩
    rw [ey, List.take_length, post_words]
    exact q H' sH
abbrev s_numbers_of : Stmt := top 16
theorem sc_numbers_of : FnScope ["way"] ["way"] (defScope s_numbers_of) := ⟨rfl, rfl, rfl, by decide +kernel, rfl, by decide +kernel, by decide +kernel⟩
theorem ok_numbers_of {f : Addr} {fd : FuncData} (F : Fun K "numbers_of" "numbers_of" s_numbers_of f fd) (B : Blt mg) (Gsteps : Def P w K mg base CX0 1 "steps_of" spSteps) : FnOk P w K mg base CX0 2 f fd ["way"] spNumbers := by
  refine F.ok sc_numbers_of (fun vs H Q E h => ?_) (fun cdv A outer s H vs Q E hr h => ?_)
  · obtain ⟨v, x, rfl, _⟩ := h
    rfl
  obtain ⟨v, x, rfl, hx, hn, q⟩ := h
  refine ⟨_, (pss_one (ps_ret (pe_callTy call_tuple_of rfl B.tuple bt_tuple (pa_cons (pe_comp (N := ["step"]) rfl (cs_of [none] rfl (by decide +kernel) (by decide +kernel) rfl rfl) rfl (pi_list (pe_def Gsteps (hr.mono (by omega)) (pa_cons (pv 0) pa_nil))) (fun _ _ _ _ => (pg_name (i := 0) (show (["step"] : List Str).Nodup by decide +kernel) rfl (by first | exact Or.inl rfl | exact Or.inr rfl))) (fun _ _ _ _ => (ptl_one (pt_not (pt_val (pe_isin B.isinstance B.str bt_str (pv 0)))))) (fun _ _ _ _ => (pv 0))) pa_nil)))), ?_⟩
  refine ⟨_, rfl, v, x, rfl, hx, hn, fun r H2 s2 hr2 => ⟨r, rfl, ⟨_, SqL.of hr2⟩, fun Dl hD C s3 fp => comp_list (K := K) (a := r) (xs := post x)
    (fun i ys σ H' => ∃ z, σ = [z] ∧ Same H H' ∧ H' r = some (.lst (post x)) ∧ ys = ((post x).take i).filter (fun v => !isS v)) (fun i ys σ H' ⟨_, _, _, g, _⟩ => SqL.of g) ⟨none, rfl, s2.trans (Same.new hD), Same.new hD _ _ hr2, rfl⟩ ?_ ?_⟩⟩
  · rintro i y ys σ H' hi hl ⟨z, rfl, sH, g, ey⟩ e
    have nrd : r ≠ Dl := ne_of_none hr2 hD
    have nD : H Dl = none := s2.free hD
    have tf := take_filter (p := fun v => !isS v) hi
    have pl := post_len x
    have il : i < (post x).length := (List.getElem?_eq_some_iff.mp hi).1
    rcases post_kind (List.mem_of_getElem? hi) with ⟨k, rfl⟩ | ⟨wd, rfl⟩
    · refine ⟨_, rfl, _, _, TyOf.int _, kit_int_str _, _, rfl, iteT ?_⟩
      refine ⟨_, rfl, ys, e, small1000 (by omega), ?_⟩
      refine ⟨_, by rw [List.length_append]; exact Nat.add_le_add_right hl 1, ⟨_, rfl, fun b o eb => ?_, ?_, ?_⟩, upd_same⟩
      · rw [upd_ne (ne_of_none eb nD)]; exact sH b o eb
      · rw [upd_ne nrd]; exact g
      · rw [tf, ey]; rfl
    · refine ⟨_, rfl, _, _, TyOf.str _, kit_str_str _, _, rfl, iteF ?_⟩
      refine ⟨ys, Nat.le_succ_of_le hl, ⟨_, rfl, sH, g, ?_⟩, e⟩
      rw [tf, ey]
      show _ = _ ++ []
      rw [List.append_nil]
  · rintro ys σ H' ⟨z, rfl, sH, g, ey⟩ e
    refine ⟨Dl, ys, rfl, .inl ⟨SqL.of e, fun t ht => ?_⟩⟩
    rw [List.take_length, post_nums] at ey
    refine q t _ (sH.trans (Same.new ht)) ?_
    rw [upd_same, ey]
/-! the refusals -/
abbrev s_init : Stmt := inClass (top 3) 0
theorem sc_init : FnScope ["self", "word"] ["self", "word"] (defScope s_init) := ⟨rfl, rfl, rfl, by decide +kernel, rfl, by decide +kernel, by decide +kernel⟩
def xw (wd : Str) : HO := .xd [("word", .str wd)]
def spInit (C : Addr) : Sp := fun vs H Q _ => ∃ (e : Addr) (v : V) (fr : Bool), vs = [.ref e, v] ∧ H e = some (xO fr (.ref C) none e) ∧ ∀ dx, H dx = none → dx ≠ e → Q .non (upd (upd H e (xO fr (.ref C) (some dx) e)) dx (.xd [("word", v)]))
theorem ok_init {f C : Addr} {bm : List Value} {fd : FuncData} (F : Fun K "__init__" "NoWay.__init__" s_init f fd) (c : XC K C bm) (n : NoAttr K C "word") : FnOk P w K mg base CX0 1 f fd ["self", "word"] (spInit C) := by
  refine F.ok sc_init (fun vs H Q E h => ?_) (fun cdv A outer s H vs Q E hr h => ?_)
  · obtain ⟨e, v, fr, rfl, _⟩ := h
    rfl
  obtain ⟨e, v, fr, rfl, he, q⟩ := h
  refine ⟨_, pss_one (ps_xfld (pv 0) (pv 1) rfl), ?_⟩
  refine ⟨_, rfl, _, rfl, e, C, bm, fr, rfl, c, he, n, fun dx h1 h2 => ?_⟩
  exact q dx h1 h2
/-- the class -/
structure Refs (P : Program) (w : World) (K : PySem.W.Frag) (mg : Str → Option Value) (base : Heap) (N : Addr) (bN : List Value) : Prop where
  cN : XC K N bN
  gN : mg "NoWay" = some (.ref N)
  mN : XMk P w K mg base N 1 (spInit N)
  wN : NoAttr K N "word"
/-- one of the program's four deeds -/
def spDeedX (N : Addr) (wd : Str) : Sp := fun vs H Q E => ∃ (a b : Int), vs = [.int a, .int b] ∧ 1 ≤ a ∧ a < 2 ^ 4000 ∧ 1 ≤ b ∧ b < 2 ^ 4000 ∧ match byE wd a b with
  | .inr z => Q (.int z) H
  | .inl e => ∀ dx, H dx = none → E (.ref N) (some dx) (upd H dx (xw e))
def spWorthOfX (N : Addr) : Sp := fun vs H Q E => ∃ (v : V) (x : Way), vs = [v] ∧ WayIn H v x ∧ x.fit ∧ x.nodes ≤ 1000 ∧ match worthE x with
  | .inr n => ∀ H', Same H H' → Q (.int n) H'
  | .inl e => ∀ dx H', Same H H' → H dx = none → H' dx = some (xw e) → E (.ref N) (some dx) H'
def FamX (N : Addr) (fam : Str → Addr) : Addr → Sp → Prop := fun f sp => ∃ wd, okWord wd ∧ f = fam wd ∧ sp = spDeedX N wd
structure DeedsX (P : Program) (w : World) (K : PySem.W.Frag) (mg : Str → Option Value) (base : Heap) (N dD : Addr) (fam : Str → Addr) : Prop where
  top : TopDict w K dD
  gl : mg "DEEDS" = some (.ref dD)
  at_ : ∀ wd, okWord wd → PySem.W.nsIn K dD wd = some (some (.ref (fam wd)))
  ok : ∀ wd, okWord wd → Callee P w K mg base (CXF P w) 3 (fam wd) (spDeedX N wd)
variable {N : Addr} {bN : List Value}
/-- raise NoWay(word) -/
theorem raised {H : Hp} {E : XS} {σ : St} {wd : Str} (h : ∀ dx, H dx = none → E (.ref N) (some dx) σ (upd H dx (xw wd))) (e : Addr) (he : H e = none) :
    spInit N [.ref e, .str wd] (upd H e (xO true (.ref N) none e)) (fun v H2 => v = .non ∧ ∃ dx, H2 e = some (xO true (.ref N) dx e) ∧ E (.ref N) dx σ (del H2 e)) E0 := by
  refine ⟨e, .str wd, true, rfl, upd_same, fun dx h1 h2 => ⟨rfl, some dx, ?_, ?_⟩⟩
  · rw [upd_ne (Ne.symm h2), upd_same]
  · rw [del_upd_ne h2, upd_upd, del_upd he]
    refine h dx ?_
    rw [upd_ne h2] at h1
    exact h1
abbrev s_plus : Stmt := top 5
theorem sc_plus : FnScope ["first", "second"] ["first", "second"] (defScope s_plus) := ⟨rfl, rfl, rfl, by decide +kernel, rfl, by decide +kernel, by decide +kernel⟩
theorem okX_plus {f : Addr} {fd : FuncData} (F : Fun K "plus" "plus" s_plus f fd) : FnOk P w K mg base (CXF P w) 3 f fd ["first", "second"] (spDeedX N "plus") := by
  refine F.okX sc_plus (fun vs H Q E h => ?_) (fun cdv A outer s H vs Q E hr h => ?_)
  · obtain ⟨a, b, rfl, _⟩ := h
    rfl
  obtain ⟨a, b, rfl, a1, a2, b1, b2, e⟩ := h
  refine ⟨_, (pss_one (ps_ret (pe_op op_add (pv 0) (pv 1)))), ?_⟩
  refine ⟨_, rfl, _, rfl, _, _, rfl, rfl, ?_⟩
  exact e
abbrev s_times : Stmt := top 7
theorem sc_times : FnScope ["first", "second"] ["first", "second"] (defScope s_times) := ⟨rfl, rfl, rfl, by decide +kernel, rfl, by decide +kernel, by decide +kernel⟩
theorem okX_times {f : Addr} {fd : FuncData} (F : Fun K "times" "times" s_times f fd) : FnOk P w K mg base (CXF P w) 3 f fd ["first", "second"] (spDeedX N "times") := by
  refine F.okX sc_times (fun vs H Q E h => ?_) (fun cdv A outer s H vs Q E hr h => ?_)
  · obtain ⟨a, b, rfl, _⟩ := h
    rfl
  obtain ⟨a, b, rfl, a1, a2, b1, b2, e⟩ := h
  have hmul : IntMulOk a b := mulOk_of (by omega) (by omega)
  refine ⟨_, (pss_one (ps_ret (pe_op op_mulB (pv 0) (pv 1)))), ?_⟩
  refine ⟨_, rfl, _, rfl, _, _, rfl, rfl, hmul, ?_⟩
  have e' : byE "times" a b = .inr (a * b) := by unfold byE; rw [if_neg (by decide +kernel), if_pos rfl]
  rw [e'] at e
  exact e
abbrev s_less : Stmt := top 6
theorem sc_less : FnScope ["first", "second"] ["first", "second"] (defScope s_less) := ⟨rfl, rfl, rfl, by decide +kernel, rfl, by decide +kernel, by decide +kernel⟩
theorem byE_less {a b : Int} : byE "less" a b = if b < a then .inr (a - b) else .inl "less" := by
  unfold byE; rw [if_neg (by decide +kernel), if_neg (by decide +kernel), if_pos rfl]
theorem byE_share {a b : Int} : byE "share" a b = if a % b = 0 then .inr (a / b) else .inl "share" := by
  unfold byE; rw [if_neg (by decide +kernel), if_neg (by decide +kernel), if_neg (by decide +kernel)]
theorem okX_less {f : Addr} {fd : FuncData} (F : Fun K "less" "less" s_less f fd) (R : Refs P w K mg base N bN) : FnOk P w K mg base (CXF P w) 3 f fd ["first", "second"] (spDeedX N "less") := by
  refine F.okX sc_less (fun vs H Q E h => ?_) (fun cdv A outer s H vs Q E hr h => ?_)
  · obtain ⟨a, b, rfl, _⟩ := h
    rfl
  obtain ⟨a, b, rfl, a1, a2, b1, b2, e⟩ := h
  rw [byE_less] at e
  refine ⟨_, (pss_cons (ps_if (pt_cmpR op_le (pv 0) (pv 1) (nomark _)) (pss_one (ps_raise rfl R.cN R.mN (hr.mono (by omega)) R.gN (pa_cons pe_str pa_nil))) pss_nil)
      (pss_one (ps_ret (pe_op op_sub (pv 0) (pv 1))))), ?_⟩
  refine ⟨_, rfl, _, rfl, _, _, rfl, rfl, _, rfl, ?_⟩
  refine ite2 (fun c => ?_) (fun c => ?_)
  · have hle : a ≤ b := of_decide_eq_true c
    rw [if_neg (by omega)] at e
    exact ⟨(by show 1 ≤ sizeLine; decide), raised (σ := []) (E := fun cls dx _ H' => E cls dx H') e⟩
  · have hlt : b < a := by
      have : ¬ a ≤ b := fun z => c (decide_eq_true z)
      omega
    rw [if_pos hlt] at e
    refine ⟨_, rfl, _, rfl, _, _, rfl, rfl, ?_⟩
    exact e
abbrev s_share : Stmt := top 8
theorem sc_share : FnScope ["first", "second"] ["first", "second"] (defScope s_share) := ⟨rfl, rfl, rfl, by decide +kernel, rfl, by decide +kernel, by decide +kernel⟩
theorem okX_share {f : Addr} {fd : FuncData} (F : Fun K "share" "share" s_share f fd) (R : Refs P w K mg base N bN) : FnOk P w K mg base (CXF P w) 3 f fd ["first", "second"] (spDeedX N "share") := by
  refine F.okX sc_share (fun vs H Q E h => ?_) (fun cdv A outer s H vs Q E hr h => ?_)
  · obtain ⟨a, b, rfl, _⟩ := h
    rfl
  obtain ⟨a, b, rfl, a1, a2, b1, b2, e⟩ := h
  rw [byE_share] at e
  refine ⟨_, (pss_cons (ps_if (pt_cmpR op_ne (pe_op op_mod (pv 0) (pv 1)) pe_int (nomark _)) (pss_one (ps_raise rfl R.cN R.mN (hr.mono (by omega)) R.gN (pa_cons pe_str pa_nil))) pss_nil)
      (pss_one (ps_ret (pe_op op_fdivB (pv 0) (pv 1))))), ?_⟩
  refine ⟨_, rfl, _, rfl, _, _, rfl, rfl, (by show (0 : Int) < b; omega), rfl, _, rfl, ?_⟩
  by_cases hz : a % b = 0
  · rw [if_pos hz] at e
    refine iteNS (congrArg V.int hz) ?_
    refine ⟨_, rfl, _, rfl, _, _, rfl, rfl, ⟨by omega, by omega⟩, ?_⟩
    exact e
  · rw [if_neg hz] at e
    refine (show (if _ then _ else _ : Prop) from ?_)
    rw [if_pos (by rw [decide_eq_false (fun z => hz (V.int.inj z))]; rfl)]
    exact ⟨(by show 1 ≤ sizeLine; decide), raised (σ := []) (E := fun cls dx _ H' => E cls dx H') e⟩
def spIdX : Sp := fun vs H Q _ => ∃ v : V, vs = [v] ∧ Q v H
abbrev s_number_itself : Stmt := top 12
theorem sc_number_itself : FnScope ["number"] ["number"] (defScope s_number_itself) := ⟨rfl, rfl, rfl, by decide +kernel, rfl, by decide +kernel, by decide +kernel⟩
theorem okX_id {f : Addr} {fd : FuncData} (F : Fun K "number_itself" "number_itself" s_number_itself f fd) : FnOk P w K mg base (CXF P w) 3 f fd ["number"] spIdX := by
  refine F.okX (k := 2) sc_number_itself (fun vs H Q E h => ?_) (fun cdv A outer s H vs Q E hr h => ?_)
  · obtain ⟨v, rfl, _⟩ := h
    rfl
  obtain ⟨v, rfl, q⟩ := h
  exact ⟨_, (pss_one (ps_ret (pv 0))), ⟨_, rfl, q⟩⟩
def spWBX (N : Addr) : Sp := fun vs H Q E => ∃ (wd : Str) (a b : Int), vs = [.str wd, .int a, .int b] ∧ okWord wd ∧ 1 ≤ a ∧ a < 2 ^ 4000 ∧ 1 ≤ b ∧ b < 2 ^ 4000 ∧ match byE wd a b with
  | .inr z => Q (.int z) H
  | .inl e => ∀ dx, H dx = none → E (.ref N) (some dx) (upd H dx (xw e))
abbrev s_worth_by : Stmt := top 13
theorem sc_worth_by : FnScope ["word", "first", "second", "deed"] ["word", "first", "second"] (defScope s_worth_by) := ⟨rfl, rfl, rfl, by decide +kernel, rfl, by decide +kernel, by decide +kernel⟩
theorem okX_wb {f dD : Addr} {fam : Str → Addr} {fd : FuncData} (F : Fun K "worth_by" "worth_by" s_worth_by f fd) (B : Blt mg) (De : DeedsX P w K mg base N dD fam) : FnOk P w K mg base (CXF P w) 5 f fd ["word", "first", "second"] (spWBX N) := by
  have De_ok : ∀ g sp, FamX N fam g sp → Callee P w K mg base (CXF P w) 3 g sp := by
    rintro g sp ⟨wd, hw, rfl, rfl⟩
    exact De.ok wd hw
  refine F.okX (k := 4) sc_worth_by (fun vs H Q E h => ?_) (fun cdv A outer s H vs Q E hr h => ?_)
  · obtain ⟨wd, a, b, rfl, _⟩ := h
    rfl
  obtain ⟨wd, a, b, rfl, hw, a1, a2, b1, b2, q⟩ := h
  refine ⟨_, (pss_cons (ps_set (i := 3) sc_worth_by.nd rfl (by first | exact Or.inl rfl | exact Or.inr rfl) (pe_ix ix_top (pe_glob (v := .ref dD) rfl De.gl rfl) (pv 0) (fun _ _ => rfl)))
      (pss_one (ps_ret (pe_callVX De_ok (hr.mono (by omega)) (pv 3) (pa_cons (pv 1) (pa_cons (pv 2) pa_nil)))))), ?_⟩
  refine ⟨_, rfl, dD, wd, .ref (fam wd), .ref (fam wd), rfl, rfl, De.top, De.at_ wd hw, rfl, ?_⟩
  exact ⟨_, rfl, fam wd, spDeedX N wd, rfl, ⟨wd, hw, rfl, rfl⟩, _, rfl, _, rfl, a, b, rfl, a1, a2, b1, b2, q⟩
def spComeX (N fN fB : Addr) : Sp := fun vs H Q E => ∃ (r : Addr) (x : Way), vs = [.ref r, .ref fN, .ref fB] ∧ H r = some (.lst (post x)) ∧ x.fit ∧ x.nodes ≤ 1000 ∧ match worthE x with
  | .inr n => ∀ H', Same H H' → Q (.int n) H'
  | .inl e => ∀ dx H', Same H H' → H dx = none → H' dx = some (xw e) → E (.ref N) (some dx) H'
abbrev s_come_of : Stmt := top 11
theorem sc_come_of : FnScope ["steps", "of_number", "of_word", "come", "step", "second", "first"] ["steps", "of_number", "of_word"] (defScope s_come_of) := ⟨rfl, rfl, rfl, by decide +kernel, rfl, by decide +kernel, by decide +kernel⟩
theorem okX_come {f fN fB : Addr} {fd : FuncData} (F : Fun K "come_of" "come_of" s_come_of f fd) (B : Blt mg) (CN : Callee P w K mg base (CXF P w) 3 fN spIdX) (CW : Callee P w K mg base (CXF P w) 5 fB (spWBX N)) : FnOk P w K mg base (CXF P w) 7 f fd ["steps", "of_number", "of_word"] (spComeX N fN fB) := by
  have FN_ok : ∀ g sp, (g = fN ∧ sp = spIdX) → Callee P w K mg base (CXF P w) 3 g sp := by
    rintro g sp ⟨rfl, rfl⟩
    exact CN
  have FW_ok : ∀ g sp, (g = fB ∧ sp = spWBX N) → Callee P w K mg base (CXF P w) 5 g sp := by
    rintro g sp ⟨rfl, rfl⟩
    exact CW
  refine F.okX (k := 6) sc_come_of (fun vs H Q E h => ?_) (fun cdv A outer s H vs Q E hr h => ?_)
  · obtain ⟨r, x, rfl, _⟩ := h
    rfl
  obtain ⟨r, x, rfl, hr2, fx, hn, ew⟩ := h
  have hrun : stepsRun (post x) [] = match worthE x with
      | .inr n => .val [n]
      | .inl e => .no e := by
    have := run_post fx [] []
    rw [List.append_nil] at this
    rw [this]
    cases worthE x <;> rfl
  refine ⟨_, (pss_cons (ps_set (i := 3) sc_come_of.nd rfl (by first | exact Or.inl rfl | exact Or.inr rfl) (pe_lst pa_nil))
      (pss_cons (ps_for (x_passes rfl rfl) rfl (pi_list (pv 0)) (pg_name (i := 4) sc_come_of.nd rfl (by first | exact Or.inl rfl | exact Or.inr rfl)) (pss_one (ps_if (pt_val (pe_isin B.isinstance B.str bt_str (pv 4))) (pss_cons (ps_set (i := 5) sc_come_of.nd rfl (by first | exact Or.inl rfl | exact Or.inr rfl) (pe_bm0 PySem.F.plainAttrs_list PySem.F.slot_list_pop PySem.F.type_list_pop mt_pop (pv 3)))
      (pss_cons (ps_set (i := 6) sc_come_of.nd rfl (by first | exact Or.inl rfl | exact Or.inr rfl) (pe_bm0 PySem.F.plainAttrs_list PySem.F.slot_list_pop PySem.F.type_list_pop mt_pop (pv 3)))
      (pss_one (ps_expr (pe_bm PySem.F.plainAttrs_list PySem.F.slot_list_append PySem.F.type_list_append mt_append (pv 3) (pa_cons (pe_callVX FW_ok (hr.mono (by omega)) (pv 2) (pa_cons (pv 4) (pa_cons (pv 6) (pa_cons (pv 5) pa_nil)))) pa_nil)))))) (pss_one (ps_expr (pe_bm PySem.F.plainAttrs_list PySem.F.slot_list_append PySem.F.type_list_append mt_append (pv 3) (pa_cons (pe_callVX FN_ok (hr.mono (by omega)) (pv 1) (pa_cons (pv 4) pa_nil)) pa_nil)))))))
      (pss_one (ps_ret (pe_ix ix_list (pv 3) pe_int (fun _ _ => rfl)))))), ?_⟩
  refine ⟨(by show 0 ≤ sizeLine; decide), fun pw hpw => ?_⟩
  refine ⟨_, rfl, r, rfl, ⟨_, SqL.of (Same.new hpw _ _ hr2)⟩, for_list (K := K) (a := r) (xs := post x)
    (fun i σ H' => ∃ (st : List Int) (a b c : Option V), σ = [some (.ref r), some (.ref fN), some (.ref fB), some (.ref pw), a, b, c] ∧ Same H H' ∧ H' pw = some (.lst (st.reverse.map V.int)) ∧ st.length ≤ i ∧ stepsRun ((post x).drop i) st = stepsRun (post x) [])
    ⟨[], none, none, none, rfl, Same.new hpw, upd_same, Nat.le_refl _, rfl⟩ (fun i σ H' _ ⟨_, _, _, _, _, g, _⟩ => SqL.of (g _ _ hr2)) ?_ ?_⟩
  · rintro i y σ H' hi ⟨st, a, b, c, rfl, sH, h2, hl, hrn⟩
    have il : i < (post x).length := (List.getElem?_eq_some_iff.mp hi).1
    have ed : (post x).drop i = y :: (post x).drop (i + 1) := by
      rw [List.drop_eq_getElem_cons il, (List.getElem?_eq_some_iff.mp hi).2]
    have lp := post_len x
    rw [ed] at hrn
    have big : ∀ k : Nat, k ≤ 1000 → k < sizeLine := fun k => small1000
    have nbad : stepsRun (post x) [] ≠ .bad := by rw [hrun]; cases worthE x <;> exact fun z => by cases z
    have sU : ∀ (o : HO) (H'' : Hp), Same H H'' → Same H (upd H'' pw o) := fun o H'' s b u e => by rw [upd_ne (ne_of_none e hpw)]; exact s b u e
    cases y with
    | int k =>
      rw [run_int] at hrn
      refine ⟨_, rfl, _, _, TyOf.int _, kit_int_str _, _, rfl, iteF ?_⟩
      refine ⟨_, rfl, .inl ⟨rfl, _, SqL.of h2⟩, _, rfl, fN, spIdX, rfl, ⟨rfl, rfl⟩, _, rfl, _, rfl, pw, _, _, rfl, rfl, h2, big _ (by rw [List.length_map, List.length_reverse]; omega), ?_⟩
      exact ⟨k :: st, _, _, _, rfl, sU _ _ sH, by rw [upd_same, List.reverse_cons, List.map_append]; rfl, by rw [List.length_cons]; omega, hrn⟩
    | str wd =>
      match st, hrn, h2, hl with
      | [], hrn, h2, hl => exact absurd hrn.symm (by simpa [stepsRun] using nbad)
      | [_], hrn, h2, hl => exact absurd hrn.symm (by simpa [stepsRun] using nbad)
      | j :: i' :: st', hrn, h2, hl =>
        rw [run_str] at hrn
        split at hrn
        · rename_i g
          obtain ⟨hw, i1, i2, j1, j2⟩ := g
          have e2 : ((j :: i' :: st').reverse.map V.int) = (st'.reverse.map V.int ++ [.int i']) ++ [.int j] := by simp
          rw [e2] at h2
          refine ⟨_, rfl, _, _, TyOf.str _, kit_str_str _, _, rfl, iteT ?_⟩
          refine ⟨_, rfl, .inl ⟨rfl, _, SqL.of h2⟩, pw, _, .int j, rfl, rfl, h2, (by simp), ?_⟩
          rw [List.dropLast_concat]
          refine ⟨_, rfl, .inl ⟨rfl, _, SqL.of upd_same⟩, pw, _, .int i', rfl, rfl, upd_same, (by simp), ?_⟩
          rw [List.dropLast_concat]
          refine ⟨_, rfl, .inl ⟨rfl, _, SqL.of upd_same⟩, _, rfl, fB, spWBX N, rfl, ⟨rfl, rfl⟩, _, rfl, _, rfl, _, rfl, wd, i', j, rfl, hw, i1, i2, j1, j2, ?_⟩
          cases eb : byE wd i' j with
          | inl e =>
            rw [eb] at hrn
            have ee : worthE x = .inl e := by
              rw [hrun] at hrn
              cases ex : worthE x with
              | inl e' => rw [ex] at hrn; cases hrn; rfl
              | inr n => rw [ex] at hrn; cases hrn
            rw [ee] at ew
            intro dx hd
            have S0 := sU (.lst (st'.reverse.map V.int)) _ (sU (.lst (st'.reverse.map V.int ++ [.int i'])) _ sH)
            exact ew dx _ (S0.trans (Same.new hd)) (S0.free hd) upd_same
          | inr z =>
            rw [eb] at hrn
            refine ⟨pw, _, _, rfl, rfl, upd_same, big _ (by rw [List.length_map, List.length_reverse]; have : st'.length + 1 + 1 ≤ i := hl; omega), ?_⟩
            exact ⟨z :: st', _, _, _, rfl, sU _ _ (sU _ _ (sU _ _ sH)), by rw [upd_same, List.reverse_cons, List.map_append]; rfl, by have : st'.length + 1 + 1 ≤ i := hl; rw [List.length_cons]; omega, hrn⟩
        · exact absurd hrn.symm nbad
    | _ => exact absurd hrn.symm (by simpa [stepsRun] using nbad)
  · rintro σ H' ⟨st, a, b, c, rfl, sH, h2, hl, hrn⟩
    rw [List.drop_length, stepsRun, hrun] at hrn
    cases ex : worthE x with
    | inl e => rw [ex] at hrn; cases hrn
    | inr n =>
      rw [ex] at hrn ew
      cases hrn
      exact ⟨_, rfl, pw, _, _, .int n, rfl, rfl, SqL.of h2, rfl, ew _ sH⟩
abbrev s_worth_of : Stmt := top 14
theorem sc_worth_of : FnScope ["way"] ["way"] (defScope s_worth_of) := ⟨rfl, rfl, rfl, by decide +kernel, rfl, by decide +kernel, by decide +kernel⟩
theorem okX_worth_of {f fN fB : Addr} {fd : FuncData} (F : Fun K "worth_of" "worth_of" s_worth_of f fd) (B : Blt mg) (mN : mg "number_itself" = some (.ref fN)) (mB : mg "worth_by" = some (.ref fB)) (Gsteps : Def P w K mg base CX0 1 "steps_of" spSteps) (GcomeX : Def P w K mg base (CXF P w) 7 "come_of" (spComeX N fN fB)) : FnOk P w K mg base (CXF P w) 9 f fd ["way"] (spWorthOfX N) := by
  refine F.okX (k := 8) sc_worth_of (fun vs H Q E h => ?_) (fun cdv A outer s H vs Q E hr h => ?_)
  · obtain ⟨v, x, rfl, _⟩ := h
    rfl
  obtain ⟨v, x, rfl, hx, fx, hn, ew⟩ := h
  refine ⟨_, (pss_one (ps_ret (pe_defX GcomeX (hr.mono (by omega)) (pa_cons (pe_def Gsteps (hr.mono (by omega)) (pa_cons (pv 0) pa_nil)) (pa_cons (pe_glob (v := .ref fN) rfl mN rfl) (pa_cons (pe_glob (v := .ref fB) rfl mB rfl) pa_nil)))))), ?_⟩
  refine ⟨_, rfl, v, x, rfl, hx, hn, fun r H1 s1 h1 => ⟨r, x, rfl, h1, fx, hn, ?_⟩⟩
  cases ex : worthE x with
  | inl e => rw [ex] at ew; exact fun dx H2 s2 hd hx2 => ew dx H2 (s1.trans s2) (s1.free hd) hx2
  | inr n => rw [ex] at ew; exact fun H2 s2 => ew H2 (s1.trans s2)
abbrev s_figures_of : Stmt := top 20
theorem sc_figures_of : FnScope ["number", "pieces", "piece"] ["number"] (defScope s_figures_of) := ⟨rfl, rfl, rfl, by decide +kernel, rfl, by decide +kernel, by decide +kernel⟩
theorem join_one (x : Str) : Txt.join "" [x] = x := by
  unfold Txt.join
  rfl
theorem ok_figures_of {f : Addr} {fd : FuncData} (F : Fun K "figures_of" "figures_of" s_figures_of f fd) (B : Blt mg) : FnOk P w K mg base CX0 1 f fd ["number"] spFigures := by
  refine F.ok sc_figures_of (fun vs H Q E h => ?_) (fun cdv A outer s H vs Q E hr h => ?_)
  · obtain ⟨n, rfl, _⟩ := h
    rfl
  obtain ⟨n, rfl, h0, h1, q⟩ := h
  refine ⟨_, (pss_cons (ps_set (i := 1) sc_figures_of.nd rfl (by first | exact Or.inl rfl | exact Or.inr rfl) (pe_lst pa_nil))
      (pss_cons (ps_while PassesOwn.never (pt_cmpR op_ge (pv 0) (pe_op op_pow pe_int pe_int) (nomark _)) pss_never)
      (pss_cons (ps_expr (pe_bm PySem.F.plainAttrs_list PySem.F.slot_list_append PySem.F.type_list_append mt_append (pv 1) (pa_cons (pe_callTy call_str_int rfl B.str bt_str (pa_cons (pv 0) pa_nil)) pa_nil)))
      (pss_one (ps_ret (pe_bm PySem.F.plainAttrs_str PySem.F.slot_str_join PySem.F.type_str_join mt_join pe_str (pa_cons (pe_rev (pv 1)) pa_nil))))))), ?_⟩
  have hn : n < 10 ^ 63 := h1
  refine ⟨(by show 0 ≤ sizeLine; decide), fun p hp => ?_⟩
  refine ⟨fun m σ H' => σ = [some (.int n), some (.ref p), none] ∧ H' = upd H p (.lst []), ⟨0, rfl, rfl⟩, ?_⟩
  rintro m σ H' ⟨rfl, rfl⟩
  refine ⟨_, rfl, _, _, rfl, rfl, ⟨by decide, by decide, by decide⟩, _, _, rfl, rfl, _, rfl, ?_⟩
  refine (show (if _ then _ else _ : Prop) from ?_)
  rw [if_neg (by rw [decide_eq_true_iff]; show ¬ ((10 : Int) ^ 64 ≤ n); omega)]
  refine ⟨_, rfl, .inl ⟨rfl, _, SqL.of upd_same⟩, _, rfl, n, rfl, ?_, p, [], _, rfl, rfl, upd_same, (by show 0 < sizeLine; decide), ?_⟩
  · refine log2_lt_of (by decide) ?_
    have : (10 : Int) ^ 63 < ((2 ^ 1920 : Nat) : Int) := by decide +kernel
    omega
  have hl : (Str.ofString (toString n)).length ≤ 63 := by rw [← cs_len]; exact (dig_facts h0 h1).2.2.1
  refine ⟨rfl, _, rfl, p, _, rfl, SqL.of upd_same, fun r hr' => ⟨"", r, [Str.ofString (toString n)], rfl, rfl, SqL.of upd_same, ?_, ?_⟩⟩
  · show (Str.ofString (toString n)).length + 0 + 1 * 0 ≤ _
    omega
  · rw [join_one, mkS_eq (show cs (Str.ofString (toString n)) = dig n from rfl)]
    refine q _ (fun b o e => ?_)
    have e1 := Same.new (o := .lst []) hp b o e
    have hb : b ≠ p := ne_of_none e hp
    have hb2 : b ≠ r := ne_of_none (show (upd (upd H p (.lst [])) p (.lst ([] ++ [.str (Str.ofString (toString n))]))) b = some o by rw [upd_ne hb]; exact e1) hr'
    rw [upd_ne hb2, upd_ne hb]
    exact e1
abbrev s_number_of : Stmt := top 21
theorem sc_number_of : FnScope ["figures", "first", "number", "at"] ["figures"] (defScope s_number_of) := ⟨rfl, rfl, rfl, by decide +kernel, rfl, by decide +kernel, by decide +kernel⟩
theorem zero_digits {x : Str} (h : PySem.NumText.AllDigits (cs x)) (hl : x.length < 64) : PySem.intText? (("0" : Str) ++ x) = some ((PySem.NumText.digitsVal (cs x) : Nat) : Int) := by
  have e : cs (("0" : Str) ++ x) = 48 :: cs x := by rw [cs_app]; rfl
  have h2 : PySem.NumText.AllDigits (cs (("0" : Str) ++ x)) := by
    rw [e]
    intro c hc
    rcases List.mem_cons.mp hc with rfl | hc
    · decide
    · exact h c hc
  have h3 := PySem.intText_digits h2 (by rw [show (("0" : Str) ++ x).cps.toList = 48 :: cs x from e]; simp) (by rw [← cs_len, e]; simp only [List.length_cons]; rw [cs_len]; omega)
  rw [h3, show (("0" : Str) ++ x).cps.toList = 48 :: cs x from e]
  rfl
theorem cutG_all {l : List Nat} : cutG l none (some (l.length : Int)) = l := by
  unfold cutG
  rw [HT.sIx_none, HT.sIx_nat, List.drop_zero]
  exact List.take_of_length_le (by omega)
theorem ok_number_of {f : Addr} {fd : FuncData} (F : Fun K "number_of" "number_of" s_number_of f fd) (B : Blt mg) : FnOk P w K mg base CX0 1 f fd ["figures"] spNumberOf := by
  refine F.ok sc_number_of (fun vs H Q E h => ?_) (fun cdv A outer s H vs Q E hr h => ?_)
  · obtain ⟨n, rfl, _⟩ := h
    rfl
  obtain ⟨z, rfl, hd, ⟨c, r, hz, hc⟩, hl, q⟩ := h
  have big : z.length ≤ sizeLine := Nat.le_of_lt (small1000 (by omega))
  have lz : (cs z).length = z.length := cs_len z
  refine ⟨_, (pss_cons (ps_if (pt_val (pe_bm PySem.F.plainAttrs_str PySem.F.slot_str_startswith PySem.F.type_str_startswith mt_startswith (pv 0) (pa_cons pe_str pa_nil))) (pss_one ps_never) pss_nil)
      (pss_cons (ps_set (i := 1) sc_number_of.nd rfl (by first | exact Or.inl rfl | exact Or.inr rfl) (pe_op op_mod (pe_callB call_len_str rfl B.len bt_len (pa_cons (pv 0) pa_nil)) pe_int))
      (pss_cons (ps_set (i := 2) sc_number_of.nd rfl (by first | exact Or.inl rfl | exact Or.inr rfl) (pe_callTy call_int_text rfl B.int bt_int (pa_cons (pe_op op_add_str pe_str (pe_slice sl_str (pv 0) po_none (po_some (pv 1)))) pa_nil)))
      (pss_cons (ps_for PassesOwn.never rfl (pi_range3e B.range (pa_cons (pv 1) (pa_cons (pe_callB call_len_str rfl B.len bt_len (pa_cons (pv 0) pa_nil)) (pa_cons pe_int pa_nil)))) (pg_name (i := 3) sc_number_of.nd rfl (by first | exact Or.inl rfl | exact Or.inr rfl)) (pss_one (ps_set (i := 2) sc_number_of.nd rfl (by first | exact Or.inl rfl | exact Or.inr rfl) (pe_op op_add (pe_op op_mul (pv 2) (pe_op op_pow pe_int pe_int)) (pe_callTy call_int_text rfl B.int bt_int (pa_cons (pe_slice sl_str (pv 0) (po_some (pv 3)) (po_some (pe_op op_add (pv 3) pe_int))) pa_nil))))))
      (pss_one (ps_ret (pv 2))))))), ?_⟩
  refine ⟨_, rfl, rfl, z, "0", rfl, rfl, _, rfl, ?_⟩
  have hs : (decide (0 + ("0" : Str).length ≤ z.length) && PySem.Builtin.Str.subAt z "0" 0) = false := by
    have h := (PySem.StrLaws.subAt_one z 48 0)
    rw [Bool.eq_false_iff]
    intro e
    rw [Bool.and_eq_true, decide_eq_true_iff] at e
    have := h.mp e
    rw [show z.cps.toList = c :: r from hz] at this
    exact hc (Option.some.inj this)
  rw [hs]
  refine iteF ?_
  refine ⟨_, rfl, z, rfl, big, _, _, rfl, rfl, (by show (0 : Int) < 64; decide), ?_⟩
  have hm : ((z.length : Nat) : Int) % 64 = (z.length : Int) := by omega
  dsimp only
  rw [hm]
  refine ⟨_, rfl, _, rfl, _, rfl, z, rfl, big, fun y hy => ?_⟩
  have ey : y = z := str_ext (by rw [hy, ← cs_len]; exact cutG_all)
  subst ey
  refine ⟨_, _, rfl, rfl, ?_, _, _, rfl, zero_digits hd hl, ?_, ?_⟩
  · show 1 + y.length ≤ sizeLine
    have := small1000 (n := 1 + y.length) (by omega)
    omega
  · show (("0" : Str) ++ y).length ≤ 640
    rw [← cs_len, cs_app, List.length_append, cs_len, cs_len]
    show 1 + y.length ≤ 640
    omega
  refine ⟨_, rfl, _, rfl, _, rfl, big, _, _, _, rfl, ⟨by omega, by omega, by omega, by omega, by decide, by decide⟩, ?_⟩
  refine for_range (n := 0) (fun i σ H' => ∃ o : Option V, σ = [some (.str y), some (.int y.length), some (.int ((PySem.NumText.digitsVal (cs y) : Nat) : Int)), o] ∧ H' = H) ⟨_, rfl, rfl⟩ ?_ ?_
  · intro i σ H' hi
    exact absurd hi (Nat.not_lt_zero _)
  · rintro σ H' ⟨o, rfl, rfl⟩
    exact ⟨_, rfl, q _ (Same.refl _)⟩
abbrev s_figures_end : Stmt := top 26
theorem sc_figures_end : FnScope ["text", "at"] ["text", "at"] (defScope s_figures_end) := ⟨rfl, rfl, rfl, by decide +kernel, rfl, by decide +kernel, by decide +kernel⟩
theorem ok_figures_end {f : Addr} {fd : FuncData} {tF : Tok} (F : Fun K "figures_end" "figures_end" s_figures_end f fd) (B : Blt mg) (mF : mg "FIGURES" = some (.str "0123456789" tF)) : FnOk P w K mg base CX0 1 f fd ["text", "at"] spFigEnd := by
  refine F.ok sc_figures_end (fun vs H Q E h => ?_) (fun cdv A outer s H vs Q E hr h => ?_)
  · obtain ⟨z, k, rfl, _⟩ := h
    rfl
  obtain ⟨z, k, rfl, hk, hl, q⟩ := h
  have big : z.length ≤ sizeLine := by rw [sizeLine_eq]; omega
  have lz : (cs z).length = z.length := cs_len z
  refine ⟨_, (pss_cons (ps_while PassesOwn.never (PW.pt (pw_and (pt_cmpR op_lt (pv 1) (pe_callB call_len_str rfl B.len bt_len (pa_cons (pv 0) pa_nil)) (nomark _)) (pw_and1 (pt_cmpR op_in_one (pe_ix ix_str (pv 0) (pv 1) (fun _ _ => rfl)) (pe_glob (v := .str "0123456789") rfl mF ⟨_, rfl⟩) rfl)))) (pss_one (ps_aug (i := 1) sc_figures_end.nd rfl (by first | exact Or.inl rfl | exact Or.inr rfl) pe_int ip_add)))
      (pss_one (ps_ret (pv 1)))), ?_⟩
  refine ⟨fun m σ H' => ∃ j : Nat, σ = [some (.str z), some (.int j)] ∧ H = H' ∧ j ≤ z.length ∧ m = z.length - j ∧ j + (((cs z).drop j).takeWhile isF).length = k + (((cs z).drop k).takeWhile isF).length, ⟨_, k, rfl, rfl, hk, rfl, rfl⟩, ?_⟩
  rintro m σ H' ⟨j, rfl, rfl, hj, rfl, ej⟩
  refine ⟨_, rfl, _, rfl, z, rfl, big, _, _, rfl, rfl, _, rfl, ?_⟩
  refine ite2 (fun e => ?_) (fun e => ?_)
  · have hj2 : j < z.length := by have := of_decide_eq_true e; omega
    have hjc : j < (cs z).length := by omega
    have hat : atI z.cps.toList (j : Int) = some (cs z)[j] := atI_nat (List.getElem?_eq_getElem hjc)
    have ed : (cs z).drop j = (cs z)[j] :: (cs z).drop (j + 1) := List.drop_eq_getElem_cons hjc
    refine ⟨_, rfl, _, rfl, z, _, _, rfl, rfl, big, hat, _, _, rfl, rfl, _, rfl, ?_⟩
    refine ite2 (fun e2 => ?_) (fun e2 => ?_)
    · refine ⟨fun σ' H' => ∃ m', m' < z.length - j ∧ ∃ j : Nat, σ' = [some (.str z), some (.int j)] ∧ H = H' ∧ j ≤ z.length ∧ m' = z.length - j ∧ j + (((cs z).drop j).takeWhile isF).length = k + (((cs z).drop k).takeWhile isF).length, fun σ' H' h => h, ?_⟩
      refine ⟨_, rfl, _, _, rfl, rfl, z.length - (j + 1), by omega, j + 1, rfl, rfl, by omega, rfl, ?_⟩
      rw [ed, List.takeWhile_cons, show isF (cs z)[j] = true from e2] at ej
      have : ((cs z)[j] :: List.takeWhile isF (List.drop (j + 1) (cs z))).length = (List.takeWhile isF (List.drop (j + 1) (cs z))).length + 1 := rfl
      have ej' : j + ((cs z)[j] :: List.takeWhile isF (List.drop (j + 1) (cs z))).length = k + (((cs z).drop k).takeWhile isF).length := ej
      omega
    · have hf : isF (cs z)[j] = false := Bool.eq_false_iff.mpr e2
      rw [ed, List.takeWhile_cons, hf] at ej
      have ej' : j + 0 = k + (((cs z).drop k).takeWhile isF).length := ej
      rw [← ej'] at q
      exact ⟨_, rfl, q⟩
  · have hj2 : ¬ j < z.length := fun x => e (decide_eq_true (by omega))
    rw [List.drop_eq_nil_of_le (show (cs z).length ≤ j by omega)] at ej
    have ej' : j + 0 = k + (((cs z).drop k).takeWhile isF).length := ej
    rw [← ej'] at q
    refine iteF ?_
    exact ⟨_, rfl, q⟩
abbrev s_is_figures : Stmt := top 25
theorem sc_is_figures : FnScope ["text"] ["text"] (defScope s_is_figures) := ⟨rfl, rfl, rfl, by decide +kernel, rfl, by decide +kernel, by decide +kernel⟩
theorem ok_is_figures {f : Addr} {fd : FuncData} (F : Fun K "is_figures" "is_figures" s_is_figures f fd) (B : Blt mg) (Gend : Def P w K mg base CX0 1 "figures_end" spFigEnd) : FnOk P w K mg base CX0 2 f fd ["text"] spIsFig := by
  refine F.ok sc_is_figures (fun vs H Q E h => ?_) (fun cdv A outer s H vs Q E hr h => ?_)
  · obtain ⟨z, rfl, _⟩ := h
    rfl
  obtain ⟨z, rfl, hl, q⟩ := h
  have big : z.length ≤ sizeLine := by rw [sizeLine_eq]; omega
  have lz : (cs z).length = z.length := cs_len z
  refine ⟨_, (pss_one (ps_ret (pe_and (pe_cmpR op_ne (pv 0) pe_str (nomark _)) (pe_one (pe_cmpR op_eq (pe_def Gend (hr.mono (by omega)) (pa_cons (pv 0) (pa_cons pe_int pa_nil))) (pe_callB call_len_str rfl B.len bt_len (pa_cons (pv 0) pa_nil)) (nomark _)))))), ?_⟩
  refine ⟨_, rfl, rfl, _, rfl, ?_⟩
  refine ite2 (fun e => ?_) (fun e => ?_)
  · refine ⟨_, rfl, z, 0, rfl, Nat.zero_le _, hl, _, rfl, z, rfl, big, rfl, ?_⟩
    refine q _ ?_
    have ne : cs z ≠ [] := fun h => by
      have ez : z = "" := str_ext (by rw [h]; rfl)
      rw [ez] at e
      exact absurd e (by decide)
    rw [decide_eq_true_iff, List.drop_zero, lz]
    constructor
    · intro h
      have := V.int.inj h
      exact ⟨ne, by omega⟩
    · intro h
      have := h.2
      exact congrArg V.int (by omega)
  · refine q false ⟨fun h => (Bool.false_ne_true h).elim, fun h => ?_⟩
    have ez : z = "" := by
      have h2 := Decidable.of_not_not (fun h2 => e (by simp [h2]) : ¬ ¬ (V.str z = V.str ""))
      exact V.str.inj h2
    rw [ez] at h
    exact absurd rfl h.1
abbrev s_is_word : Stmt := top 30
theorem sc_is_word : FnScope ["piece"] ["piece"] (defScope s_is_word) := ⟨rfl, rfl, rfl, by decide +kernel, rfl, by decide +kernel, by decide +kernel⟩
theorem ok_is_word {f : Addr} {fd : FuncData} (F : Fun K "is_word" "is_word" s_is_word f fd) (B : Blt mg) : FnOk P w K mg base CX0 1 f fd ["piece"] spIsWord := by
  refine F.ok sc_is_word (fun vs H Q E h => ?_) (fun cdv A outer s H vs Q E hr h => ?_)
  · obtain ⟨z, rfl, _⟩ := h
    rfl
  obtain ⟨z, rfl, hw, q⟩ := h
  refine ⟨_, (pss_one (ps_ret (pe_and (pe_isin B.isinstance B.str bt_str (pv 0)) (pe_one (pe_cmpR op_ne (pv 0) pe_str (nomark _)))))), ?_⟩
  refine ⟨_, rfl, _, _, TyOf.str _, kit_str_str _, _, rfl, iteT ?_⟩
  refine ⟨_, rfl, rfl, ?_⟩
  have e : (!decide (V.str z = V.str "(")) = true := by
    have := (okWord_ne hw).1
    simp [this]
  rw [e]
  exact q
abbrev s_is_way : Stmt := top 31
theorem sc_is_way : FnScope ["piece"] ["piece"] (defScope s_is_way) := ⟨rfl, rfl, rfl, by decide +kernel, rfl, by decide +kernel, by decide +kernel⟩
theorem ok_is_way {f : Addr} {fd : FuncData} (F : Fun K "is_way" "is_way" s_is_way f fd) (B : Blt mg) : FnOk P w K mg base CX0 1 f fd ["piece"] spIsWay := by
  refine F.ok sc_is_way (fun vs H Q E h => ?_) (fun cdv A outer s H vs Q E hr h => ?_)
  · obtain ⟨z, x, rfl, _⟩ := h
    rfl
  obtain ⟨v, x, rfl, hw, q⟩ := h
  refine ⟨_, (pss_one (ps_ret (pe_not (pe_isin B.isinstance B.str bt_str (pv 0))))), ?_⟩
  cases hw with
  | num n => exact ⟨_, rfl, _, _, TyOf.int _, kit_int_str _, _, rfl, q⟩
  | op h ha hb => exact ⟨_, rfl, _, _, TyOf.tup h, kit_tup_str _, _, rfl, q⟩
theorem cutG_nat {l : List Nat} {a b : Nat} (h : a ≤ l.length) : cutG l (some (a : Int)) (some (b : Int)) = (l.drop a).take (b - a) := by
  unfold cutG
  rw [HT.sIx_nat, HT.sIx_nat, show min a l.length = a by omega]
  rcases Nat.le_total b l.length with hb | hb
  · rw [show min b l.length = b by omega]
  · rw [show min b l.length = l.length by omega, List.take_of_length_le (by rw [List.length_drop]; omega), List.take_of_length_le (by rw [List.length_drop]; omega)]
def kvS : List (Str × V) := [("plus", .str " + "), ("less", .str " - "), ("times", .str " * "), ("share", .str " / ")]
theorem take_while : ∀ l : List Nat, l.take (l.takeWhile isF).length = l.takeWhile isF
  | [] => rfl
  | c :: r => by
    rw [List.takeWhile_cons]
    cases h : isF c with
    | true =>
      show (c :: r).take ((r.takeWhile isF).length + 1) = c :: r.takeWhile isF
      rw [List.take_succ_cons, take_while r]
    | false => rfl
theorem while_digits : ∀ l : List Nat, PySem.NumText.AllDigits (l.takeWhile isF)
  | [] => fun c h => by cases h
  | c :: r => by
    rw [List.takeWhile_cons]
    cases h : isF c with
    | true =>
      intro d hd
      rcases List.mem_cons.mp hd with rfl | hd
      · exact (isF_iff d).mp h
      · exact while_digits r d hd
    | false => intro d hd; cases hd
abbrev s_piece_at : Stmt := top 28
theorem sc_piece_at : FnScope ["text", "at", "end", "word", "sign"] ["text", "at"] (defScope s_piece_at) := ⟨rfl, rfl, rfl, by decide +kernel, rfl, by decide +kernel, by decide +kernel⟩
theorem ok_piece_at {f : Addr} {fd : FuncData} {tF : Tok} {dS : Addr} (F : Fun K "piece_at" "piece_at" s_piece_at f fd) (B : Blt mg) (mF : mg "FIGURES" = some (.str "0123456789" tF)) (mS : mg "SIGNS" = some (.ref dS)) (TS : TopItems w K dS kvS)
    (Gnum : Def P w K mg base CX0 1 "number_of" spNumberOf) (Gend : Def P w K mg base CX0 1 "figures_end" spFigEnd) : FnOk P w K mg base CX0 2 f fd ["text", "at"] spPieceAt := by
  refine F.ok sc_piece_at (fun vs H Q E h => ?_) (fun cdv A outer s H vs Q E hr h => ?_)
  · obtain ⟨z, k, v, n, rfl, _⟩ := h
    rfl
  obtain ⟨z, k, v, n, rfl, hl, ht, q⟩ := h
  have big : z.length ≤ sizeLine := by rw [sizeLine_eq]; omega
  have lz : (cs z).length = z.length := cs_len z
  have hk : k < (cs z).length := by
    rcases Nat.lt_or_ge k (cs z).length with h | h
    · exact h
    · rw [List.drop_eq_nil_of_le h] at ht
      cases ht
  have ed : (cs z).drop k = (cs z)[k] :: (cs z).drop (k + 1) := List.drop_eq_getElem_cons hk
  have hat : atI z.cps.toList (k : Int) = some (cs z)[k] := atI_nat (List.getElem?_eq_getElem hk)
  generalize hc : (cs z)[k] = c at ed hat
  generalize hrr : (cs z).drop (k + 1) = r at ed
  refine ⟨_, (pss_cons (ps_if (pt_cmpR op_in_one (pe_ix ix_str (pv 0) (pv 1) (fun _ _ => rfl)) pe_str rfl) (pss_one (ps_ret (pe_tup (pa_cons (pe_ix ix_str (pv 0) (pv 1) (fun _ _ => rfl)) (pa_cons (pe_op op_add (pv 1) pe_int) pa_nil))))) pss_nil)
      (pss_cons (ps_if (pt_cmpR op_in_one (pe_ix ix_str (pv 0) (pv 1) (fun _ _ => rfl)) (pe_glob (v := .str "0123456789") rfl mF ⟨_, rfl⟩) rfl) (pss_cons (ps_set (i := 2) sc_piece_at.nd rfl (by first | exact Or.inl rfl | exact Or.inr rfl) (pe_def Gend (hr.mono (by omega)) (pa_cons (pv 0) (pa_cons (pv 1) pa_nil))))
      (pss_one (ps_ret (pe_tup (pa_cons (pe_def Gnum (hr.mono (by omega)) (pa_cons (pe_slice sl_str (pv 0) (po_some (pv 1)) (po_some (pv 2))) pa_nil)) (pa_cons (pv 2) pa_nil)))))) pss_nil)
      (pss_cons (ps_for PassesOwn.never rfl (pi_items mS TS) (pg_tup rfl (pgs_cons (pg_name (i := 3) sc_piece_at.nd rfl (by first | exact Or.inl rfl | exact Or.inr rfl)) (pgs_cons (pg_name (i := 4) sc_piece_at.nd rfl (by first | exact Or.inl rfl | exact Or.inr rfl)) pgs_nil))) (pss_one (ps_if (pt_cmpR op_eq (pe_slice sl_str (pv 0) (po_some (pv 1)) (po_some (pe_op op_add (pv 1) pe_int))) (pv 4) (nomark _)) (pss_one (ps_ret (pe_tup (pa_cons (pv 3) (pa_cons (pe_op op_add (pv 1) pe_int) pa_nil))))) pss_nil)))
      (pss_one ps_never)))), ?_⟩
  refine ⟨_, rfl, _, rfl, z, _, _, rfl, rfl, big, hat, _, _, rfl, rfl, _, rfl, ?_⟩
  rw [ed] at ht
  unfold tokAt at ht
  dsimp only at ht
  refine ite2 (fun e => ?_) (fun e => ?_)
  · have e1 : c = 40 ∨ c = 41 := by
      have := of_decide_eq_true e
      rw [show cs ("()" : Str) = [40, 41] by decide +kernel] at this
      simpa using this
    rw [if_pos e1] at ht
    cases ht
    refine ⟨_, rfl, _, rfl, z, _, _, rfl, rfl, big, hat, _, rfl, _, _, rfl, rfl, (by show 2 ≤ sizeLine; decide), fun t ht => ?_⟩
    exact q t _ (Same.new ht) upd_same
  have e1 : ¬ (c = 40 ∨ c = 41) := fun h => e (decide_eq_true (by rw [show cs ("()" : Str) = [40, 41] by decide +kernel]; simpa using h))
  rw [if_neg e1] at ht
  refine ⟨_, rfl, _, rfl, z, _, _, rfl, rfl, big, hat, _, _, rfl, rfl, _, rfl, ?_⟩
  refine ite2 (fun e2 => ?_) (fun e2 => ?_)
  · rw [if_pos (show isF c = true from e2)] at ht
    split at ht
    · rename_i hg
      cases ht
      rw [← ed] at hg q
      refine ⟨_, rfl, _, rfl, z, k, rfl, by omega, hl, ?_⟩
      refine ⟨_, rfl, _, rfl, _, rfl, _, rfl, _, rfl, z, rfl, big, fun y hy => ?_⟩
      have ey : cs y = ((cs z).drop k).takeWhile isF := by
        rw [hy, cutG_nat (by omega), show k + (((cs z).drop k).takeWhile isF).length - k = (((cs z).drop k).takeWhile isF).length by omega, take_while]
      refine ⟨y, rfl, by rw [ey]; exact while_digits _, ⟨c, r.takeWhile isF, ?_, hg.1⟩, by rw [← cs_len, ey]; exact hg.2, fun H' s' => ?_⟩
      · rw [ey, ed, List.takeWhile_cons, show isF c = true from e2]; rfl
      rw [ey]
      refine ⟨_, rfl, (by show 2 ≤ sizeLine; decide), fun t ht => ?_⟩
      exact q t _ (s'.trans (Same.new ht)) upd_same
    · cases ht
  rw [if_neg (show ¬ isF c = true from e2), ← ed] at ht
  refine for_items (kvs := kvS) (fun i σ H' => ∃ o1 o2 : Option V, σ = [some (.str z), some (.int k), none, o1, o2] ∧ Same H H' ∧ (0 < i → ((cs z).drop k).take 3 ≠ sgn "plus") ∧ (1 < i → ((cs z).drop k).take 3 ≠ sgn "less") ∧ (2 < i → ((cs z).drop k).take 3 ≠ sgn "times") ∧ (3 < i → ((cs z).drop k).take 3 ≠ sgn "share")) ⟨none, none, rfl, Same.refl _, by omega, by omega, by omega, by omega⟩ ?_ ?_
  · rintro i T wd x σ H' hi ⟨o1, o2, rfl, sH, n1, n2, n3, n4⟩ hT
    have hx : ∃ sg : Str, x = .str sg ∧ cs sg = sgn wd ∧ ((i = 0 ∧ wd = "plus") ∨ (i = 1 ∧ wd = "less") ∨ (i = 2 ∧ wd = "times") ∨ (i = 3 ∧ wd = "share")) := by
      match i, hi with
      | 0, hi => cases hi; exact ⟨_, rfl, by decide +kernel, .inl ⟨rfl, rfl⟩⟩
      | 1, hi => cases hi; exact ⟨_, rfl, by decide +kernel, .inr (.inl ⟨rfl, rfl⟩)⟩
      | 2, hi => cases hi; exact ⟨_, rfl, by decide +kernel, .inr (.inr (.inl ⟨rfl, rfl⟩))⟩
      | 3, hi => cases hi; exact ⟨_, rfl, by decide +kernel, .inr (.inr (.inr ⟨rfl, rfl⟩))⟩
      | i + 4, hi => cases hi
    obtain ⟨sg, rfl, hsg, hcase⟩ := hx
    refine ⟨T, _, rfl, SqT.of upd_same, rfl, _, _, rfl, _, _, rfl, rfl, ?_⟩
    refine ⟨_, rfl, _, rfl, _, rfl, _, rfl, _, _, rfl, rfl, _, rfl, z, rfl, big, fun y hy => ⟨_, rfl, rfl, _, rfl, ?_⟩⟩
    have ey : cs y = ((cs z).drop k).take 3 := by
      rw [hy]
      have := cutG_nat (l := cs z) (a := k) (b := k + 3) (by omega)
      rw [show k + 3 - k = 3 by omega] at this
      exact this
    refine ite2 (fun e3 => ?_) (fun e3 => ?_)
    · have e4 : y = sg := V.str.inj (of_decide_eq_true e3)
      subst e4
      rw [hsg] at ey
      have e5 : v = .str wd ∧ n = 3 := by
        rcases hcase with ⟨rfl, rfl⟩ | ⟨rfl, rfl⟩ | ⟨rfl, rfl⟩ | ⟨rfl, rfl⟩
        · rw [if_pos ey.symm] at ht; cases ht; exact ⟨rfl, rfl⟩
        · rw [if_neg (n1 (by omega)), if_pos ey.symm] at ht; cases ht; exact ⟨rfl, rfl⟩
        · rw [if_neg (n1 (by omega)), if_neg (n2 (by omega)), if_pos ey.symm] at ht; cases ht; exact ⟨rfl, rfl⟩
        · rw [if_neg (n1 (by omega)), if_neg (n2 (by omega)), if_neg (n3 (by omega)), if_pos ey.symm] at ht; cases ht; exact ⟨rfl, rfl⟩
      obtain ⟨rfl, rfl⟩ := e5
      refine ⟨_, rfl, _, rfl, _, _, rfl, rfl, (by show 2 ≤ sizeLine; decide), fun t ht => ?_⟩
      exact q t _ (sH.trans ((Same.new hT).trans (Same.new ht))) upd_same
    · have e4 : ((cs z).drop k).take 3 ≠ sgn wd := fun h => e3 (decide_eq_true (congrArg V.str (str_ext (by rw [ey, hsg]; exact h))))
      refine ⟨_, _, rfl, sH.trans (Same.new hT), ?_⟩
      rcases hcase with ⟨rfl, rfl⟩ | ⟨rfl, rfl⟩ | ⟨rfl, rfl⟩ | ⟨rfl, rfl⟩
      · exact ⟨fun _ => e4, by omega, by omega, by omega⟩
      · exact ⟨fun _ => n1 (by omega), fun _ => e4, by omega, by omega⟩
      · exact ⟨fun _ => n1 (by omega), fun _ => n2 (by omega), fun _ => e4, by omega⟩
      · exact ⟨fun _ => n1 (by omega), fun _ => n2 (by omega), fun _ => n3 (by omega), fun _ => e4⟩
  · rintro σ H' ⟨o1, o2, rfl, sH, n1, n2, n3, n4⟩
    rw [if_neg (n1 (by decide)), if_neg (n2 (by decide)), if_neg (n3 (by decide)), if_neg (n4 (by decide))] at ht
    cases ht
abbrev s_pieces_of : Stmt := top 27
theorem sc_pieces_of : FnScope ["text", "pieces", "at", "piece"] ["text"] (defScope s_pieces_of) := ⟨rfl, rfl, rfl, by decide +kernel, rfl, by decide +kernel, by decide +kernel⟩
theorem lex_len : ∀ {l : List Nat} {ts : List V}, Lex l ts → ts.length ≤ l.length := by
  intro l ts h
  induction h with
  | nil => exact Nat.le_refl _
  | cons h hk hr ih =>
    rename_i l v k ts
    rw [List.length_drop] at ih
    rw [List.length_cons]
    have : l ≠ [] := fun e => by rw [e] at h; cases h
    have : 0 < l.length := List.length_pos_iff.mpr this
    omega
theorem ok_pieces_of {f : Addr} {fd : FuncData} (F : Fun K "pieces_of" "pieces_of" s_pieces_of f fd) (B : Blt mg) (Gpiece : Def P w K mg base CX0 2 "piece_at" spPieceAt) : FnOk P w K mg base CX0 3 f fd ["text"] spPieces := by
  refine F.ok sc_pieces_of (fun vs H Q E h => ?_) (fun cdv A outer s H vs Q E hr h => ?_)
  · obtain ⟨z, ts, rfl, _⟩ := h
    rfl
  obtain ⟨z, ts, rfl, hl, hx, q⟩ := h
  have big : z.length ≤ sizeLine := by rw [sizeLine_eq]; omega
  have lz : (cs z).length = z.length := cs_len z
  have lt := lex_len hx
  refine ⟨_, (pss_cons (ps_set (i := 1) sc_pieces_of.nd rfl (by first | exact Or.inl rfl | exact Or.inr rfl) (pe_lst pa_nil))
      (pss_cons (ps_set (i := 2) sc_pieces_of.nd rfl (by first | exact Or.inl rfl | exact Or.inr rfl) pe_int)
      (pss_cons (ps_while PassesOwn.never (pt_cmpR op_lt (pv 2) (pe_callB call_len_str rfl B.len bt_len (pa_cons (pv 0) pa_nil)) (nomark _)) (pss_cons (ps_asg (pe_def Gpiece (hr.mono (by omega)) (pa_cons (pv 0) (pa_cons (pv 2) pa_nil))) (pg_tup rfl (pgs_cons (pg_name (i := 3) sc_pieces_of.nd rfl (by first | exact Or.inl rfl | exact Or.inr rfl)) (pgs_cons (pg_name (i := 2) sc_pieces_of.nd rfl (by first | exact Or.inl rfl | exact Or.inr rfl)) pgs_nil))))
      (pss_one (ps_expr (pe_bm PySem.F.plainAttrs_list PySem.F.slot_list_append PySem.F.type_list_append mt_append (pv 1) (pa_cons (pv 3) pa_nil))))))
      (pss_one (ps_ret (pv 1)))))), ?_⟩
  refine ⟨(by show 0 ≤ sizeLine; decide), fun p hp => ?_⟩
  refine ⟨fun m σ H' => ∃ (k : Nat) (t1 t2 : List V) (o : Option V), σ = [some (.str z), some (.ref p), some (.int k), o] ∧ Same H H' ∧ H' p = some (.lst t1) ∧ Lex ((cs z).drop k) t2 ∧ t1 ++ t2 = ts ∧ m = t2.length, ⟨_, 0, [], ts, none, rfl, Same.new hp, upd_same, hx, rfl, rfl⟩, ?_⟩
  rintro m σ H' ⟨k, t1, t2, o, rfl, sH, hP, lx, et, rfl⟩
  refine ⟨_, rfl, _, rfl, z, rfl, big, _, _, rfl, rfl, _, rfl, ?_⟩
  refine ite2 (fun e => ?_) (fun e => ?_)
  · have hk : k < (cs z).length := by have := of_decide_eq_true e; omega
    generalize hD : (cs z).drop k = l at lx
    cases lx with
    | nil =>
      have := congrArg List.length hD
      rw [List.length_drop] at this
      have h0 : (cs z).length - k = 0 := this
      omega
    | @cons _ v n t2' h hn hr2 =>
      refine ⟨fun σ' H' => ∃ m', m' < (v :: t2').length ∧ ∃ (k : Nat) (t1 t2 : List V) (o : Option V), σ' = [some (.str z), some (.ref p), some (.int k), o] ∧ Same H H' ∧ H' p = some (.lst t1) ∧ Lex ((cs z).drop k) t2 ∧ t1 ++ t2 = ts ∧ m' = t2.length, fun σ' H' h => h, ?_⟩
      refine ⟨_, rfl, _, rfl, z, k, v, n, rfl, hl, by rw [hD]; exact h, fun t H2 s2 h2 => ?_⟩
      refine ⟨t, _, rfl, SqT.of h2, rfl, _, _, rfl, _, _, rfl, rfl, ?_⟩
      have lt1 : t1.length ≤ 10000 := by rw [← et, List.length_append] at lt; omega
      refine ⟨_, rfl, .inl ⟨rfl, _, SqL.of (s2 _ _ hP)⟩, _, rfl, p, t1, v, rfl, rfl, s2 _ _ hP, (by rw [sizeLine_eq]; omega), ?_⟩
      refine ⟨t2'.length, Nat.lt_succ_self _, k + n, t1 ++ [v], t2', _, rfl, ?_, upd_same, ?_, by rw [List.append_assoc]; exact et, rfl⟩
      · exact fun b o e => by rw [upd_ne (ne_of_none e hp)]; exact s2 _ _ (sH b o e)
      · rw [← hD, List.drop_drop] at hr2; exact hr2
  · have hk : ¬ k < (cs z).length := fun h => e (decide_eq_true (by omega))
    rw [List.drop_eq_nil_of_le (by omega)] at lx
    have e2 : t2 = [] := by
      cases lx with
      | nil => rfl
      | cons h _ _ => cases h
    subst e2
    rw [List.append_nil] at et
    subst et
    exact ⟨_, rfl, q p _ sH hP⟩
abbrev s_way_closed : Stmt := top 29
theorem sc_way_closed : FnScope ["held", "bracket", "first", "word", "second"] ["held"] (defScope s_way_closed) := ⟨rfl, rfl, rfl, by decide +kernel, rfl, by decide +kernel, by decide +kernel⟩
theorem cut_last4 {pre four : List V} (h : four.length = 4) : cutV (pre ++ four) (some (-4)) none = four := by
  unfold cutV
  have e : HT.sIx (pre ++ four).length 0 (some (-4)) = pre.length := by
    show (if (-4 : Int) < 0 then ((-4 : Int) + ((pre ++ four).length : Int)).toNat else min (-4 : Int).toNat (pre ++ four).length) = _
    rw [if_pos (by decide), List.length_append, h]
    omega
  rw [e, HT.sIx_none, List.drop_left, List.length_append, h]
  exact List.take_of_length_le (by omega)
theorem ok_way_closed {f : Addr} {fd : FuncData} (F : Fun K "way_closed" "way_closed" s_way_closed f fd) (B : Blt mg) (Gword : Def P w K mg base CX0 1 "is_word" spIsWord) (Gway : Def P w K mg base CX0 1 "is_way" spIsWay) : FnOk P w K mg base CX0 2 f fd ["held"] spClosed := by
  refine F.ok sc_way_closed (fun vs H Q E h => ?_) (fun cdv A outer s H vs Q E hr h => ?_)
  · obtain ⟨p, pre, a, b, wd, x, y, rfl, _⟩ := h
    rfl
  obtain ⟨p, pre, a, b, wd, x, y, rfl, hp, hw, ha, hb, q⟩ := h
  refine ⟨_, (pss_cons (ps_if (pt_cmpR op_lt (pe_callB call_len_seq rfl B.len bt_len (pa_cons (pv 0) pa_nil)) pe_int (nomark _)) (pss_one ps_never) pss_nil)
      (pss_cons (ps_asg (pe_slice sl_list (pv 0) (po_some (pe_un un_neg pe_int)) po_none) (pg_lst rfl (pgs_cons (pg_name (i := 1) sc_way_closed.nd rfl (by first | exact Or.inl rfl | exact Or.inr rfl)) (pgs_cons (pg_name (i := 2) sc_way_closed.nd rfl (by first | exact Or.inl rfl | exact Or.inr rfl)) (pgs_cons (pg_name (i := 3) sc_way_closed.nd rfl (by first | exact Or.inl rfl | exact Or.inr rfl)) (pgs_cons (pg_name (i := 4) sc_way_closed.nd rfl (by first | exact Or.inl rfl | exact Or.inr rfl)) pgs_nil))))))
      (pss_cons (ps_if (PW.pt (pw_or (pt_cmpR op_ne (pv 1) pe_str (nomark _)) (pw_or (pt_not (pt_val (pe_def Gword (hr.mono (by omega)) (pa_cons (pv 3) pa_nil)))) (pw_or (pt_not (pt_val (pe_def Gway (hr.mono (by omega)) (pa_cons (pv 2) pa_nil)))) (pw_or1 (pt_not (pt_val (pe_def Gway (hr.mono (by omega)) (pa_cons (pv 4) pa_nil))))))))) (pss_one ps_never) pss_nil)
      (pss_one (ps_ret (pe_tup (pa_cons (pv 3) (pa_cons (pv 2) (pa_cons (pv 4) pa_nil))))))))), ?_⟩
  refine ⟨_, rfl, p, _, rfl, .inl (SqL.of hp), _, _, rfl, rfl, _, rfl, ?_⟩
  refine (show (if _ then _ else _ : Prop) from ?_)
  rw [if_neg (by rw [decide_eq_true_iff, List.length_append]; show ¬ (((pre.length + 4 : Nat) : Int) < 4); omega)]
  refine ⟨_, rfl, _, rfl, _, rfl, p, _, rfl, SqL.of hp, fun r hr' => ?_⟩
  rw [cut_last4 rfl]
  refine ⟨r, _, rfl, SqL.of upd_same, rfl, _, _, rfl, _, _, rfl, _, _, rfl, _, _, rfl, rfl, ?_⟩
  refine ⟨_, rfl, rfl, _, rfl, iteF ?_⟩
  refine ⟨_, rfl, wd, rfl, hw, _, rfl, iteF ?_⟩
  refine ⟨_, rfl, a, x, rfl, ha.kt (KT.new hr'), _, rfl, iteF ?_⟩
  refine ⟨_, rfl, b, y, rfl, hb.kt (KT.new hr'), _, rfl, iteF ?_⟩
  refine ⟨_, rfl, _, rfl, _, rfl, (by show 3 ≤ sizeLine; decide), fun t ht => ?_⟩
  exact q t _ ((Same.new hr').trans (Same.new ht)) upd_same
def spBrk : Sp := fun vs H Q _ => ∃ (wd a b : Str), vs = [.str wd, .str a, .str b] ∧ okWord wd ∧ a.length + b.length ≤ 10000 ∧ Q (.str (mkS (40 :: (cs a ++ (sgn wd ++ (cs b ++ [41])))))) H
abbrev s_in_brackets : Stmt := top 23
theorem sc_in_brackets : FnScope ["word", "first", "second"] ["word", "first", "second"] (defScope s_in_brackets) := ⟨rfl, rfl, rfl, by decide +kernel, rfl, by decide +kernel, by decide +kernel⟩
theorem ok_brk {f : Addr} {fd : FuncData} {dS : Addr} (F : Fun K "in_brackets" "in_brackets" s_in_brackets f fd) (B : Blt mg) (mS : mg "SIGNS" = some (.ref dS)) (TD : TopDict w K dS) (hS : ∀ wd, okWord wd → ∃ t, PySem.W.nsIn K dS wd = some (some (.str (mkS (sgn wd)) t))) : FnOk P w K mg base CX0 1 f fd ["word", "first", "second"] spBrk := by
  refine F.ok sc_in_brackets (fun vs H Q E h => ?_) (fun cdv A outer s H vs Q E hr h => ?_)
  · obtain ⟨wd, a, b, rfl, _⟩ := h
    rfl
  obtain ⟨wd, a, b, rfl, hw, hab, q⟩ := h
  obtain ⟨t, ht⟩ := hS wd hw
  refine ⟨_, (pss_one (ps_ret (pe_op op_add_str (pe_op op_add_str (pe_op op_add_str (pe_op op_add_str pe_str (pv 1)) (pe_ix ix_top (pe_glob (v := .ref dS) rfl mS rfl) (pv 0) (fun _ _ => rfl))) (pv 2)) pe_str))), ?_⟩
  have sz : sizeLine = 16777216 := sizeLine_eq
  have l1 : ("(" : Str).length = 1 := rfl
  have l2 : (")" : Str).length = 1 := rfl
  have l3 : (mkS (sgn wd)).length = 3 := by rw [len_mkS]; rfl
  refine ⟨_, rfl, _, _, rfl, rfl, (by omega), ?_⟩
  refine ⟨_, rfl, dS, wd, .str (mkS (sgn wd)), _, rfl, rfl, TD, ht, ⟨t, rfl⟩, ?_⟩
  refine ⟨_, _, rfl, rfl, (by rw [cs_len_app]; omega), ?_⟩
  refine ⟨_, rfl, _, _, rfl, rfl, (by rw [cs_len_app, cs_len_app]; omega), ?_⟩
  refine ⟨_, _, rfl, rfl, (by rw [cs_len_app, cs_len_app, cs_len_app]; omega), ?_⟩
  have et : ((("(" : Str) ++ a) ++ mkS (sgn wd)) ++ b ++ (")" : Str) = mkS (40 :: (cs a ++ (sgn wd ++ (cs b ++ [41])))) := by
    refine mkS_eq ?_
    rw [cs_app, cs_app, cs_app, cs_app, cs_mkS, show cs ("(" : Str) = [40] from rfl, show cs (")" : Str) = [41] from rfl]
    simp
  rw [← et] at q
  exact q
def spComeT (fF fB : Addr) : Sp := fun vs H Q _ => ∃ (r : Addr) (x : Way) (m : Int), vs = [.ref r, .ref fF, .ref fB] ∧ H r = some (.lst (post x)) ∧ x.ok m ∧ m < topN ∧ x.size ≤ 100 ∧ ∀ H', Same H H' → Q (.str (mkS (par x))) H'
theorem ok_comeT {f fF fB : Addr} {fd : FuncData} (F : Fun K "come_of" "come_of" s_come_of f fd) (B : Blt mg) (CF : Callee P w K mg base CX0 1 fF spFigures) (CB : Callee P w K mg base CX0 1 fB spBrk) : FnOk P w K mg base CX0 2 f fd ["steps", "of_number", "of_word"] (spComeT fF fB) := by
  have FN_ok : ∀ g sp, (g = fF ∧ sp = spFigures) → Callee P w K mg base CX0 1 g sp := by
    rintro g sp ⟨rfl, rfl⟩
    exact CF
  have FW_ok : ∀ g sp, (g = fB ∧ sp = spBrk) → Callee P w K mg base CX0 1 g sp := by
    rintro g sp ⟨rfl, rfl⟩
    exact CB
  refine F.ok sc_come_of (fun vs H Q E h => ?_) (fun cdv A outer s H vs Q E hr h => ?_)
  · obtain ⟨r, x, m, rfl, _⟩ := h
    rfl
  obtain ⟨r, x, m, rfl, hr1, ho, hm, hz, q⟩ := h
  refine ⟨_, (pss_cons (ps_set (i := 3) sc_come_of.nd rfl (by first | exact Or.inl rfl | exact Or.inr rfl) (pe_lst pa_nil))
      (pss_cons (ps_for PassesOwn.never rfl (pi_list (pv 0)) (pg_name (i := 4) sc_come_of.nd rfl (by first | exact Or.inl rfl | exact Or.inr rfl)) (pss_one (ps_if (pt_val (pe_isin B.isinstance B.str bt_str (pv 4))) (pss_cons (ps_set (i := 5) sc_come_of.nd rfl (by first | exact Or.inl rfl | exact Or.inr rfl) (pe_bm0 PySem.F.plainAttrs_list PySem.F.slot_list_pop PySem.F.type_list_pop mt_pop (pv 3)))
      (pss_cons (ps_set (i := 6) sc_come_of.nd rfl (by first | exact Or.inl rfl | exact Or.inr rfl) (pe_bm0 PySem.F.plainAttrs_list PySem.F.slot_list_pop PySem.F.type_list_pop mt_pop (pv 3)))
      (pss_one (ps_expr (pe_bm PySem.F.plainAttrs_list PySem.F.slot_list_append PySem.F.type_list_append mt_append (pv 3) (pa_cons (pe_callV FW_ok (hr.mono (by omega)) pass0 (pv 2) (pa_cons (pv 4) (pa_cons (pv 6) (pa_cons (pv 5) pa_nil)))) pa_nil)))))) (pss_one (ps_expr (pe_bm PySem.F.plainAttrs_list PySem.F.slot_list_append PySem.F.type_list_append mt_append (pv 3) (pa_cons (pe_callV FN_ok (hr.mono (by omega)) pass0 (pv 1) (pa_cons (pv 4) pa_nil)) pa_nil)))))))
      (pss_one (ps_ret (pe_ix ix_list (pv 3) pe_int (fun _ _ => rfl)))))), ?_⟩
  refine ⟨(by show 0 ≤ sizeLine; decide), fun sh hsh => ?_⟩
  have nn := x.nodes_eq
  have pl := post_len x
  refine ⟨_, rfl, r, rfl, ⟨_, SqL.of (Same.new hsh _ _ hr1)⟩, for_list (K := K) (a := r) (xs := post x) (fun i σ H' => ∃ (st : List Str) (o1 o2 o3 : Option V), σ = [some (.ref r), some (.ref fF), some (.ref fB), some (.ref sh), o1, o2, o3] ∧ Same H H' ∧ H' sh = some (.lst (st.reverse.map V.str)) ∧ showRun ((post x).drop i) st = some [mkS (par x)] ∧ st.length ≤ i)
    ⟨[], none, none, none, rfl, Same.new hsh, upd_same, by have := show_post hm ho hz [] []; rw [List.append_nil] at this; exact this, Nat.le_refl _⟩ (fun i σ H' _ ⟨_, _, _, _, _, g, _⟩ => SqL.of (g _ _ hr1)) ?_ ?_⟩
  · rintro i y σ H' hi ⟨st, o1, o2, o3, rfl, sH, hP, hrun, hlen⟩
    have hil : i < (post x).length := (List.getElem?_eq_some_iff.mp hi).1
    have ed : (post x).drop i = y :: (post x).drop (i + 1) := by
      rw [List.drop_eq_getElem_cons hil, (List.getElem?_eq_some_iff.mp hi).2]
    rw [ed] at hrun
    have big : ∀ k : Nat, k ≤ 1000 → k < sizeLine := fun k => small1000
    have lm : ∀ zs : List Str, ((zs.reverse).map V.str).length = zs.length := fun zs => by simp
    rcases show_some hrun with ⟨n, rfl, g1, g2, hrun1⟩ | ⟨wd, a, b, st2, rfl, rfl, hw, hab, hrun1⟩
    · refine ⟨_, rfl, _, _, TyOf.int _, kit_int_str _, _, rfl, iteF ?_⟩
      refine ⟨_, rfl, .inl ⟨rfl, _, SqL.of hP⟩, _, rfl, fF, spFigures, rfl, ⟨rfl, rfl⟩, _, rfl, n, rfl, g1, g2, fun H2 s2 => ?_⟩
      refine ⟨sh, _, _, rfl, rfl, s2 _ _ hP, big _ (by rw [lm]; omega), ?_⟩
      refine ⟨mkS (dig n) :: st, _, _, _, rfl, ?_, ?_, hrun1, Nat.succ_le_succ hlen⟩
      · exact fun b o e => by rw [upd_ne (ne_of_none e hsh)]; exact s2 _ _ (sH b o e)
      · rw [upd_same, List.reverse_cons, List.map_append]; rfl
    · have e2 : (b :: a :: st2).reverse.map V.str = (st2.reverse.map V.str ++ [V.str a]) ++ [V.str b] := by simp
      rw [e2] at hP
      have sl : st2.length + 2 ≤ i := hlen
      refine ⟨_, rfl, _, _, TyOf.str _, kit_str_str _, _, rfl, iteT ?_⟩
      refine ⟨_, rfl, .inl ⟨rfl, _, SqL.of hP⟩, sh, _, .str b, rfl, rfl, hP, (by simp), ?_⟩
      rw [List.dropLast_concat]
      refine ⟨_, rfl, .inl ⟨rfl, _, SqL.of upd_same⟩, sh, _, .str a, rfl, rfl, upd_same, (by simp), ?_⟩
      rw [List.dropLast_concat]
      refine ⟨_, rfl, .inl ⟨rfl, _, SqL.of upd_same⟩, _, rfl, fB, spBrk, rfl, ⟨rfl, rfl⟩, _, rfl, _, rfl, _, rfl, wd, a, b, rfl, hw, hab, ?_⟩
      refine ⟨sh, _, _, rfl, rfl, upd_same, big _ (by rw [lm]; omega), ?_⟩
      refine ⟨mkS (40 :: (cs a ++ (sgn wd ++ (cs b ++ [41])))) :: st2, _, _, _, rfl, ?_, ?_, hrun1, by show st2.length + 1 ≤ i + 1; omega⟩
      · exact fun b o e => by rw [upd_ne (ne_of_none e hsh), upd_ne (ne_of_none e hsh), upd_ne (ne_of_none e hsh)]; exact sH b o e
      · rw [upd_same, List.reverse_cons, List.map_append]; rfl
  · rintro σ H' ⟨st, o1, o2, o3, rfl, sH, hP, hrun, hlen⟩
    rw [List.drop_length] at hrun
    have est : st = [mkS (par x)] := by rw [showRun] at hrun; exact Option.some.inj hrun
    subst est
    exact ⟨_, rfl, sh, _, _, _, rfl, rfl, SqL.of hP, rfl, q _ sH⟩
abbrev s_way_shown : Stmt := top 22
theorem sc_way_shown : FnScope ["way", "whole"] ["way"] (defScope s_way_shown) := ⟨rfl, rfl, rfl, by decide +kernel, rfl, by decide +kernel, by decide +kernel⟩
theorem cut_in {l : List Nat} {a b : Nat} : cutG (a :: (l ++ [b])) (some 1) (some (-1)) = l := by
  unfold cutG
  have n : (a :: (l ++ [b])).length = l.length + 2 := by simp
  have e1 : HT.sIx (a :: (l ++ [b])).length 0 (some 1) = 1 := by
    rw [n]
    show (if (1 : Int) < 0 then ((1 : Int) + ((l.length + 2 : Nat) : Int)).toNat else min (1 : Int).toNat (l.length + 2)) = 1
    rw [if_neg (by decide)]
    show min 1 (l.length + 2) = 1
    omega
  have e2 : HT.sIx (a :: (l ++ [b])).length (a :: (l ++ [b])).length (some (-1)) = l.length + 1 := by
    rw [n]
    show (if (-1 : Int) < 0 then ((-1 : Int) + ((l.length + 2 : Nat) : Int)).toNat else min (-1 : Int).toNat (l.length + 2)) = l.length + 1
    rw [if_pos (by decide)]
    omega
  rw [e1, e2, List.drop_succ_cons, List.drop_zero, Nat.add_sub_cancel, List.take_left]
theorem ok_way_shown {f fF fB : Addr} {fd : FuncData} (F : Fun K "way_shown" "way_shown" s_way_shown f fd) (B : Blt mg) (mFi : mg "figures_of" = some (.ref fF)) (mBr : mg "in_brackets" = some (.ref fB))
    (Gsteps : Def P w K mg base CX0 1 "steps_of" spSteps) (GcomeT : Def P w K mg base CX0 2 "come_of" (spComeT fF fB)) : FnOk P w K mg base CX0 3 f fd ["way"] spShown := by
  refine F.ok (k := 2) sc_way_shown (fun vs H Q E h => ?_) (fun cdv A outer s H vs Q E hr h => ?_)
  · obtain ⟨v, x, m, rfl, _⟩ := h
    rfl
  obtain ⟨v, x, m, rfl, hx, ho, hm, hz, q⟩ := h
  refine ⟨_, (pss_cons (ps_set (i := 1) sc_way_shown.nd rfl (by first | exact Or.inl rfl | exact Or.inr rfl) (pe_def GcomeT (hr.mono (by omega)) (pa_cons (pe_def Gsteps (hr.mono (by omega)) (pa_cons (pv 0) pa_nil)) (pa_cons (pe_glob (v := .ref fF) rfl mFi rfl) (pa_cons (pe_glob (v := .ref fB) rfl mBr rfl) pa_nil)))))
      (pss_one (ps_ret (pe_ifExp (pt_val (pe_isin B.isinstance B.tuple bt_tuple (pv 0))) (pe_slice sl_str (pv 1) (po_some pe_int) (po_some (pe_un un_neg pe_int))) (pv 1))))), ?_⟩
  have nn := x.nodes_eq
  refine ⟨_, rfl, v, x, rfl, hx, by omega, fun r H1 s1 hr1 => ⟨r, x, m, rfl, hr1, ho, hm, hz, fun H2 s2 => ?_⟩⟩
  have sH := s1.trans s2
  cases hx with
  | num n =>
    refine ⟨_, rfl, _, _, TyOf.int _, kit_int_tuple _, _, rfl, iteF ?_⟩
    exact ⟨_, rfl, q _ sH⟩
  | @op p wd x1 y1 a1 b1 h ha hb =>
    refine ⟨_, rfl, _, _, TyOf.tup (sH _ _ h), kit_tup_tup _, _, rfl, iteT ?_⟩
    have hpl := par_len hm ho
    refine ⟨_, rfl, _, rfl, _, rfl, _, rfl, _, rfl, ?_, fun y hy => ?_⟩
    · rw [len_mkS, sizeLine_eq]; omega
    · rw [cs_mkS, par_txt, cut_in] at hy
      rw [mkS_eq hy]
      exact q _ sH
abbrev s_read_way : Stmt := top 24
theorem sc_read_way : FnScope ["text", "held", "piece"] ["text"] (defScope s_read_way) := ⟨rfl, rfl, rfl, by decide +kernel, rfl, by decide +kernel, by decide +kernel⟩
theorem not_figs : ∀ {l : List Nat} {c : Nat}, c ∈ l → isF c = false → (l.takeWhile isF).length ≠ l.length
  | a :: l, c, h, hc => by
    rw [List.takeWhile_cons]
    cases ha : isF a with
    | false => intro e; cases e
    | true =>
      rcases List.mem_cons.mp h with rfl | h
      · rw [hc] at ha; cases ha
      · intro e
        have : (l.takeWhile isF).length + 1 = l.length + 1 := e
        exact not_figs h hc (by omega)
theorem all_figs : ∀ {l : List Nat}, (∀ c ∈ l, isF c = true) → l.takeWhile isF = l := by
  intro l h
  have := take_fig (d := l) (r := []) h (fun c r e => by cases e)
  rwa [List.append_nil] at this
theorem last4 (n : Nat) (h : 4 ≤ n) : HT.sIx n 0 (some (-4)) = n - 4 := by
  show (if (-4 : Int) < 0 then ((-4 : Int) + (n : Int)).toNat else min (-4 : Int).toNat n) = n - 4
  rw [if_pos (by decide)]
  omega
theorem ok_read_way {f : Addr} {fd : FuncData} (F : Fun K "read_way" "read_way" s_read_way f fd) (B : Blt mg) (Gisf : Def P w K mg base CX0 2 "is_figures" spIsFig) (Gnum : Def P w K mg base CX0 1 "number_of" spNumberOf)
    (Gpieces : Def P w K mg base CX0 3 "pieces_of" spPieces) (Gclosed : Def P w K mg base CX0 2 "way_closed" spClosed) : FnOk P w K mg base CX0 4 f fd ["text"] spRead := by
  refine F.ok sc_read_way (fun vs H Q E h => ?_) (fun cdv A outer s H vs Q E hr h => ?_)
  · obtain ⟨x, m, rfl, _⟩ := h
    rfl
  obtain ⟨x, m, rfl, ho, hm, hz, q⟩ := h
  have tl := txt_len hm ho
  have ltx : (mkS (txt x)).length ≤ 10000 := by rw [len_mkS]; omega
  refine ⟨_, (pss_cons (ps_if (pt_val (pe_def Gisf (hr.mono (by omega)) (pa_cons (pv 0) pa_nil))) (pss_one (ps_ret (pe_def Gnum (hr.mono (by omega)) (pa_cons (pv 0) pa_nil)))) pss_nil)
      (pss_cons (ps_set (i := 1) sc_read_way.nd rfl (by first | exact Or.inl rfl | exact Or.inr rfl) (pe_lst pa_nil))
      (pss_cons (ps_for PassesOwn.never rfl (pi_list (pe_def Gpieces (hr.mono (by omega)) (pa_cons (pe_op op_add_str (pe_op op_add_str pe_str (pv 0)) pe_str) pa_nil))) (pg_name (i := 2) sc_read_way.nd rfl (by first | exact Or.inl rfl | exact Or.inr rfl)) (pss_one (ps_if (pt_cmpR op_eq (pv 2) pe_str (nomark _)) (pss_one (ps_asg (pe_lst (pa_cons (pe_def Gclosed (hr.mono (by omega)) (pa_cons (pv 1) pa_nil)) pa_nil)) (pg_subA (pv 1) (pe_sliceO (po_some (pe_un un_neg pe_int)) po_none) set_sl))) (pss_one (ps_expr (pe_bm PySem.F.plainAttrs_list PySem.F.slot_list_append PySem.F.type_list_append mt_append (pv 1) (pa_cons (pv 2) pa_nil)))))))
      (pss_cons (ps_if (pt_cmpR op_ne (pe_callB call_len_seq rfl B.len bt_len (pa_cons (pv 1) pa_nil)) pe_int (nomark _)) (pss_one ps_never) pss_nil)
      (pss_one (ps_ret (pe_ix ix_list (pv 1) pe_int (fun _ _ => rfl)))))))), ?_⟩
  refine ⟨_, rfl, _, rfl, ltx, fun b hb => ⟨_, rfl, ?_⟩⟩
  rw [cs_mkS] at hb
  cases x with
  | num n =>
    obtain ⟨h1, h2⟩ := ho
    obtain ⟨ha, hc, hl, hv⟩ := dig_facts h1 (show n < topN by omega)
    have nn : txt (.num n) ≠ [] := fun e => by
      obtain ⟨c, r, e2, _⟩ := hc
      rw [show txt (.num n) = dig n from rfl, e2] at e
      exact absurd e (by simp)
    have eb : b = true := hb.mpr ⟨nn, congrArg List.length (all_figs (l := txt (.num n)) fun c hc => (isF_iff c).mpr (ha c hc))⟩
    subst eb
    refine iteT ?_
    refine ⟨_, rfl, _, rfl, by rw [cs_mkS]; exact ha, by rw [cs_mkS]; exact hc, by rw [len_mkS]; show (dig n).length < 64; omega, fun H' s' => ?_⟩
    rw [cs_mkS, show txt (.num n) = dig n from rfl, hv]
    exact q _ _ s' (.num n)
  | op wd a1 b1 =>
    have eb : b = false := by
      rw [Bool.eq_false_iff]
      intro e
      exact not_figs (l := txt (.op wd a1 b1)) (c := 32) (by simp [txt, sgn]) (by decide +kernel) (hb.mp e).2
    subst eb
    refine iteF ?_
    refine ⟨(by show 0 ≤ sizeLine; decide), fun hd hhd => ?_⟩
    have sz : sizeLine = 16777216 := sizeLine_eq
    refine ⟨_, rfl, _, _, rfl, rfl, (by show 1 + (mkS (txt (.op wd a1 b1))).length ≤ sizeLine; omega), _, _, rfl, rfl, (by rw [cs_len_app]; show 1 + (mkS (txt (.op wd a1 b1))).length + 1 ≤ sizeLine; omega), ?_⟩
    have ecs : cs ((("(" : Str) ++ mkS (txt (.op wd a1 b1))) ++ (")" : Str)) = par (.op wd a1 b1) := by
      rw [cs_app, cs_app, cs_mkS, par_txt]; rfl
    have lx : Lex (par (.op wd a1 b1)) (toks (.op wd a1 b1)) := by
      have := lex_par hm ho (r := []) (ts := []) (fun c r e => by cases e) .nil
      rwa [List.append_nil, List.append_nil] at this
    have tkl := toks_len (.op wd a1 b1)
    refine ⟨_, _, rfl, (by rw [cs_len_app, cs_len_app]; show 1 + (mkS (txt (.op wd a1 b1))).length + 1 ≤ 10000; rw [len_mkS]; omega), by rw [ecs]; exact lx, fun r H1 s1 hr1 => ?_⟩
    have h0 : H1 hd = some (.lst []) := s1 _ _ upd_same
    have nhr : hd ≠ r := fun e => by subst e; rw [h0] at hr1; injection hr1 with hr1; injection hr1 with hr1; cases hr1
    generalize hx : Way.op wd a1 b1 = x at *
    refine ⟨r, rfl, ⟨_, SqL.of hr1⟩, for_list (K := K) (a := r) (xs := toks x) (fun i σ H' => ∃ (vl : List V) (il : List Item) (o : Option V), σ = [some (.str (mkS (txt x))), some (.ref hd), o] ∧ Same H H' ∧ H' r = some (.lst (toks x)) ∧ H' hd = some (.lst vl.reverse) ∧ Paired (ItemIn H') vl il ∧ parse ((toks x).drop i) il = some [.wy x] ∧ vl.length ≤ i)
      ⟨[], [], none, rfl, (Same.new hhd).trans s1, hr1, h0, .nil, by have := parse_toks ho [] []; rw [List.append_nil] at this; exact this, Nat.le_refl _⟩ (fun i σ H' _ ⟨_, _, _, _, _, g, _⟩ => SqL.of g) ?_ ?_⟩
    · rintro i y σ H' hi ⟨vl, il, o, rfl, sH, hR, hP, pr, hrun, hlen⟩
      have hil : i < (toks x).length := (List.getElem?_eq_some_iff.mp hi).1
      have ed : (toks x).drop i = y :: (toks x).drop (i + 1) := by
        rw [List.drop_eq_getElem_cons hil, (List.getElem?_eq_some_iff.mp hi).2]
      rw [ed] at hrun
      have big : ∀ k : Nat, k ≤ 1000 → k < sizeLine := fun k => small1000
      rcases parse_some hrun with ⟨n, rfl, hrun⟩ | ⟨rfl, hrun⟩ | ⟨w2, a2, b2, il2, rfl, rfl, hrun⟩ | ⟨w2, rfl, n1, n2, hw2, hrun⟩
      · refine ⟨_, rfl, rfl, _, rfl, ?_⟩
        rw [decide_eq_false (fun e => by cases e)]
        refine iteF ?_
        refine ⟨_, rfl, .inl ⟨rfl, _, SqL.of hP⟩, _, rfl, hd, _, _, rfl, rfl, hP, big _ (by rw [List.length_reverse]; omega), ?_⟩
        refine ⟨.int n :: vl, (.wy (.num n)) :: il, _, rfl, ?_, ?_, ?_, ?_, hrun, Nat.succ_le_succ hlen⟩
        · exact fun b o e => by rw [upd_ne (ne_of_none e hhd)]; exact sH b o e
        · rw [upd_ne nhr.symm]; exact hR
        · rw [upd_same, List.reverse_cons]
        · exact Paired.mapP (Paired.cons (.wy (.num n)) pr) fun _ _ h => h.kt (KT.upd hP)
      · refine ⟨_, rfl, rfl, _, rfl, ?_⟩
        rw [decide_eq_false (fun e => absurd (V.str.inj e) (by decide))]
        refine iteF ?_
        refine ⟨_, rfl, .inl ⟨rfl, _, SqL.of hP⟩, _, rfl, hd, _, _, rfl, rfl, hP, big _ (by rw [List.length_reverse]; omega), ?_⟩
        refine ⟨.str "(" :: vl, .br :: il, _, rfl, ?_, ?_, ?_, ?_, hrun, Nat.succ_le_succ hlen⟩
        · exact fun b o e => by rw [upd_ne (ne_of_none e hhd)]; exact sH b o e
        · rw [upd_ne nhr.symm]; exact hR
        · rw [upd_same, List.reverse_cons]
        · exact Paired.mapP (Paired.cons (.br) pr) fun _ _ h => h.kt (KT.upd hP)
      · cases pr with
        | @cons v1 _ vl1 _ i1 pr =>
          cases pr with
          | @cons v2 _ vl2 _ i2 pr =>
            cases pr with
            | @cons v3 _ vl3 _ i3 pr =>
              cases pr with
              | @cons v4 _ vl4 _ i4 pr =>
                cases i1 with
                | wy w1 =>
                cases i2 with
                | wd hw2 =>
                cases i3 with
                | wy w3 =>
                cases i4 with
                | br =>
                have erev : (v1 :: V.str w2 :: v3 :: V.str "(" :: vl4).reverse = vl4.reverse ++ [.str "(", v3, .str w2, v1] := by simp
                rw [erev] at hP
                have ln4 : vl4.length + 4 ≤ i := hlen
                refine ⟨_, rfl, rfl, _, rfl, iteT ?_⟩
                refine ⟨_, rfl, hd, _, _, _, _, _, _, rfl, hP, hw2, w3, w1, fun t H2 s2 ht => ?_⟩
                refine ⟨(by show 1 ≤ sizeLine; decide), fun lq hlq => ?_⟩
                refine ⟨_, rfl, _, rfl, _, rfl, fun sl hsl => ?_⟩
                have hP3 : (upd (upd H2 lq (.lst [.ref t])) sl (slO (some (-4)) none sl)) hd = some (.lst (vl4.reverse ++ [.str "(", v3, .str w2, v1])) := Same.new hsl _ _ (Same.new hlq _ _ (s2 _ _ hP))
                have hQ3 : (upd (upd H2 lq (.lst [.ref t])) sl (slO (some (-4)) none sl)) lq = some (.lst [.ref t]) := Same.new hsl _ _ upd_same
                have nhq : hd ≠ lq := fun e => by subst e; rw [s2 _ _ hP] at hlq; cases hlq
                have nle : (vl4.reverse ++ [V.str "(", v3, V.str w2, v1]).length = vl4.length + 4 := by simp
                refine ⟨hd, lq, sl, _, _, some (-4), none, rfl, rfl, rfl, hP3, hQ3, nhq, upd_same, ?_, ?_, ?_⟩
                · rw [nle, last4 _ (by omega), HT.sIx_none]; omega
                · rw [nle]; show vl4.length + 4 + 1 ≤ sizeLine; omega
                · rw [nle, last4 _ (by omega), HT.sIx_none, ← nle, List.drop_length, nle]
                  rw [show vl4.length + 4 - 4 = vl4.reverse.length by rw [List.length_reverse]; omega, List.take_left, List.append_nil]
                  have kt : KT H' (upd (upd (upd H2 lq (.lst [.ref t])) sl (slO (some (-4)) none sl)) hd (.lst (vl4.reverse ++ [.ref t]))) := (KT.same (s2.trans ((Same.new hlq).trans (Same.new hsl)))).trans (KT.upd hP3)
                  have hT : (upd (upd (upd H2 lq (.lst [.ref t])) sl (slO (some (-4)) none sl)) hd (.lst (vl4.reverse ++ [.ref t]))) t = some (.tup [.str w2, v3, v1]) := by
                    have := KT.upd (o := .lst (vl4.reverse ++ [.ref t])) hP3
                    exact this _ _ (Same.new hsl _ _ (Same.new hlq _ _ ht))
                  refine ⟨.ref t :: vl4, .wy (.op w2 a2 b2) :: il2, _, rfl, ?_, ?_, ?_, ?_, hrun, by show vl4.length + 1 ≤ i + 1; omega⟩
                  · exact fun b o e => by rw [upd_ne (ne_of_none e hhd)]; exact Same.new hsl _ _ (Same.new hlq _ _ (s2 _ _ (sH b o e)))
                  · rw [upd_ne nhr.symm]; exact Same.new hsl _ _ (Same.new hlq _ _ (s2 _ _ hR))
                  · rw [upd_same, List.reverse_cons]
                  · exact .cons (.wy (.op hT (w3.kt kt) (w1.kt kt))) (Paired.mapP pr fun _ _ h => h.kt kt)
      · refine ⟨_, rfl, rfl, _, rfl, ?_⟩
        rw [decide_eq_false (fun e => n2 (V.str.inj e))]
        refine iteF ?_
        refine ⟨_, rfl, .inl ⟨rfl, _, SqL.of hP⟩, _, rfl, hd, _, _, rfl, rfl, hP, big _ (by rw [List.length_reverse]; omega), ?_⟩
        refine ⟨.str w2 :: vl, (.wd w2) :: il, _, rfl, ?_, ?_, ?_, ?_, hrun, Nat.succ_le_succ hlen⟩
        · exact fun b o e => by rw [upd_ne (ne_of_none e hhd)]; exact sH b o e
        · rw [upd_ne nhr.symm]; exact hR
        · rw [upd_same, List.reverse_cons]
        · exact Paired.mapP (Paired.cons (.wd hw2) pr) fun _ _ h => h.kt (KT.upd hP)
    · rintro σ H' ⟨vl, il, o, rfl, sH, hR, hP, pr, hrun, hlen⟩
      rw [List.drop_length] at hrun
      have est : il = [.wy x] := by rw [parse] at hrun; exact Option.some.inj hrun
      subst est
      cases pr with
      | @cons v1 _ vl1 _ i1 pr =>
        cases pr
        cases i1 with
        | wy w1 =>
        refine ⟨_, rfl, hd, _, rfl, .inl (SqL.of hP), rfl, _, rfl, iteNS rfl ?_⟩
        refine ⟨_, rfl, hd, _, _, _, rfl, rfl, SqL.of hP, rfl, ?_⟩
        exact q _ _ sH w1
abbrev s_law_told : Stmt := top 41
theorem sc_law_told : FnScope ["way", "found", "e"] ["way"] (defScope s_law_told) := ⟨rfl, rfl, rfl, by decide +kernel, rfl, by decide +kernel, by decide +kernel⟩
def spTold : Sp := fun vs H Q _ => ∃ (v : V) (x : Way), vs = [v] ∧ WayIn H v x ∧ x.fit ∧ x.nodes ≤ 1000 ∧ ∀ H', Same H H' → Q (resV (worthE x)) H'
theorem ok_law_told {f : Addr} {fd : FuncData} (F : Fun K "_law_told" "_law_told" s_law_told f fd) (R : Refs P w K mg base N bN) (Gworthof : Def P w K mg base (CXF P w) 9 "worth_of" (spWorthOfX N)) : FnOk P w K mg base CX0 11 f fd ["way"] spTold := by
  refine F.ok (k := 10) sc_law_told (fun vs H Q E h => ?_) (fun cdv A outer s H vs Q E hr h => ?_)
  · obtain ⟨v, x, rfl, _⟩ := h
    rfl
  obtain ⟨v, x, rfl, hx, fx, hn, q⟩ := h
  refine ⟨_, (pss_cons (ps_set (i := 1) sc_law_told.nd rfl (by first | exact Or.inl rfl | exact Or.inr rfl) pe_non)
      (pss_cons (ps_try (i := 2) sc_law_told.nd rfl rfl rfl R.gN R.cN.xcls rfl rfl (fun EX pins => (pss_one (ps_set (i := 1) sc_law_told.nd rfl (by first | exact Or.inl rfl | exact Or.inr rfl) (pe_defX Gworthof (hr.mono (by omega)) (pa_cons (pv 0) pa_nil))))) (fun _ pins => (pss_one (ps_set (i := 1) sc_law_told.nd rfl (by first | exact Or.inl rfl | exact Or.inr rfl) (pe_xf (K := K) (pv 2))))))
      (pss_one (ps_ret (pv 1))))), ?_⟩
  refine ⟨_, rfl, v, x, rfl, hx, fx, hn, ?_⟩
  cases ew : worthE x with
  | inr n =>
    rw [ew] at q
    intro H2 s2
    exact ⟨_, rfl, q _ s2⟩
  | inl wd =>
    rw [ew] at q
    intro dx H2 s2 nd hd
    refine ⟨⟨N, bN, rfl, R.cN.xcls, by simp⟩, fun e he => ?_⟩
    have nde : dx ≠ e := ne_of_none hd he
    refine ⟨_, rfl, e, N, bN, false, dx, _, .str wd, rfl, R.cN, upd_same, by rw [upd_ne nde]; exact hd, R.wN, rfl, ?_⟩
    exact ⟨_, rfl, q _ (s2.trans (Same.new he))⟩
theorem ok_worth_hush {f : Addr} {fd : FuncData} (F : FnOk P w K mg base (CXF P w) 9 f fd ["way"] (spWorthOfX N)) : FnOk P w K mg base CX0 9 f fd ["way"] spWorthOf :=
  F.hush fun vs H Q E ⟨v, x, n, e, hx, fx, hn, ew, q⟩ => ⟨v, x, e, hx, fx, hn, by rw [ew]; exact q⟩
end
end Law

set_option Elab.async false
set_option linter.all false
set_option maxRecDepth 100000
set_option maxHeartbeats 4000000
namespace Law
open PySem L2
section
variable {P : Program} {w : World} {K : PySem.W.Frag} {mg : Str → Option Value} {base : Heap} {N : Addr} {bN : List Value}
theorem small1000' {n : Nat} (h : n ≤ 1000) : n ≤ sizeLine := Nat.le_of_lt (small1000 h)
theorem wayRep {K : PySem.W.Frag} {H : Hp} {v : V} {x : Way} (h : WayIn H v x) : Rep K H (wd x) v := by
  induction h with
  | num n => rfl
  | op h ha hb iha ihb => exact ⟨_, _, rfl, SqT.of h, _, _, rfl, rfl, _, _, rfl, iha, _, _, rfl, ihb, rfl⟩
theorem wd_deps (w : Str) (a b : Way) : deps [.str w, wd a, wd b] = max a.ht b.ht := by simp [deps, D.dep, wd_dep]
theorem topM : (1000000 : Int) < topN := by decide +kernel
abbrev s_law_right : Stmt := top 42
theorem sc_law_right : FnScope ["one", "other", "word", "way", "worths", "words", "due"] ["one", "other"] (defScope s_law_right) := ⟨rfl, rfl, rfl, by decide +kernel, rfl, by decide +kernel, by decide +kernel⟩
def spRight : Sp := fun vs H Q _ => ∃ (v1 v2 : V) (x1 x2 : Way), vs = [v1, v2] ∧ WayIn H v1 x1 ∧ WayIn H v2 x2 ∧ x1.ok 1000000 ∧ x2.ok 1000000 ∧ x1.size + x2.size ≤ 8 ∧ ∀ H', Same H H' → Q (.bl true) H'
theorem ok_law_right {f : Addr} {fd : FuncData} (F : Fun K "_law_right" "_law_right" s_law_right f fd) (B : Blt mg) (Gshown : Def P w K mg base CX0 3 "way_shown" spShown) (Gread : Def P w K mg base CX0 4 "read_way" spRead) (Gnumbers : Def P w K mg base CX0 2 "numbers_of" spNumbers) (Gdeeds : Def P w K mg base CX0 2 "deeds_of" spDeeds)
    (Gtold : Def P w K mg base CX0 11 "_law_told" spTold) (Gby : Def P w K mg base CX0 1 "_law_by" spBy) : FnOk P w K mg base CX0 12 f fd ["one", "other"] spRight := by
  refine F.ok (k := 11) sc_law_right (fun vs H Q E h => ?_) (fun cdv A outer s H vs Q E hr h => ?_)
  · obtain ⟨v1, v2, x1, x2, rfl, _⟩ := h
    rfl
  obtain ⟨v1, v2, x1, x2, rfl, hw1, hw2, ho1, ho2, hz, q⟩ := h
  have p1 := x1.size_pos
  have p2 := x2.size_pos
  have fit1 : x1.fit := fit_of ho1 (by omega)
  have fit2 : x2.fit := fit_of ho2 (by omega)
  have nn1 := x1.nodes_eq
  have nn2 := x2.nodes_eq
  have hh1 := x1.ht_lt
  have hh2 := x2.ht_lt
  refine ⟨_, (pss_cons (ps_for PassesOwn.never rfl (pi_list (pe_lst (pa_cons pe_str (pa_cons pe_str (pa_cons pe_str (pa_cons pe_str pa_nil)))))) (pg_name (i := 2) sc_law_right.nd rfl (by first | exact Or.inl rfl | exact Or.inr rfl)) (pss_cons (ps_set (i := 3) sc_law_right.nd rfl (by first | exact Or.inl rfl | exact Or.inr rfl) (pe_tup (pa_cons (pv 2) (pa_cons (pv 0) (pa_cons (pv 1) pa_nil)))))
      (pss_cons (ps_if (PW.pt (pw_or (pt_cmpR (op_neS (hu60 hr)) (pe_def Gread (hr.mono (by omega)) (pa_cons (pe_def Gshown (hr.mono (by omega)) (pa_cons (pv 3) pa_nil)) pa_nil)) (pv 3) (nomark _)) (pw_or1 (pt_cmpR (op_neS (hu60 hr)) (pe_def Gnumbers (hr.mono (by omega)) (pa_cons (pv 3) pa_nil)) (pe_op op_catT (pe_def Gnumbers (hr.mono (by omega)) (pa_cons (pv 0) pa_nil)) (pe_def Gnumbers (hr.mono (by omega)) (pa_cons (pv 1) pa_nil))) (nomark _))))) (pss_one (ps_ret pe_bl)) pss_nil)
      (pss_cons (ps_if (PW.pt (pw_or (pt_cmpR op_ne (pe_def Gdeeds (hr.mono (by omega)) (pa_cons (pv 3) pa_nil)) (pe_op op_add (pe_op op_add (pe_def Gdeeds (hr.mono (by omega)) (pa_cons (pv 0) pa_nil)) (pe_def Gdeeds (hr.mono (by omega)) (pa_cons (pv 1) pa_nil))) pe_int) (nomark _)) (pw_or1 (pt_cmpR op_ne (pe_def Gdeeds (hr.mono (by omega)) (pa_cons (pv 3) pa_nil)) (pe_op op_sub (pe_callB call_len_seq rfl B.len bt_len (pa_cons (pe_def Gnumbers (hr.mono (by omega)) (pa_cons (pv 3) pa_nil)) pa_nil)) pe_int) (nomark _))))) (pss_one (ps_ret pe_bl)) pss_nil)
      (pss_cons (ps_set (i := 4) sc_law_right.nd rfl (by first | exact Or.inl rfl | exact Or.inr rfl) (pe_lst (pa_cons (pe_def Gtold (hr.mono (by omega)) (pa_cons (pv 0) pa_nil)) (pa_cons (pe_def Gtold (hr.mono (by omega)) (pa_cons (pv 1) pa_nil)) pa_nil))))
      (pss_cons (ps_setC (i := 5) sc_law_right.nd rfl (by first | exact Or.inl rfl | exact Or.inr rfl) (N := ["worth"]) rfl (csC_of [none] rfl (by decide +kernel) (by decide +kernel) rfl rfl) rfl (pi_list (pv 4)) (fun _ _ _ _ => (pg_name (i := 0) (show (["worth"] : List Str).Nodup by decide +kernel) rfl (by first | exact Or.inl rfl | exact Or.inr rfl))) (fun _ _ _ _ => (ptl_one (pt_val (pe_isin B.isinstance B.str bt_str (pv 0))))) (fun _ _ _ _ => (pv 0)))
      (pss_cons (ps_set (i := 6) sc_law_right.nd rfl (by first | exact Or.inl rfl | exact Or.inr rfl) (pe_ix ix_list (pe_op op_cat (pv 5) (pe_lst (pa_cons pe_str pa_nil))) pe_int (fun _ _ => rfl)))
      (pss_cons (ps_if (pt_cmpR (op_eqNil (hu60 hr)) (pv 5) (pe_lst pa_nil) (nomark _)) (pss_one (ps_set (i := 6) sc_law_right.nd rfl (by first | exact Or.inl rfl | exact Or.inr rfl) (pe_def Gby (hr.mono (by omega)) (pa_cons (pv 2) (pa_cons (pe_ix ix_list (pv 4) pe_int (fun _ _ => rfl)) (pa_cons (pe_ix ix_list (pv 4) pe_int (fun _ _ => rfl)) pa_nil)))))) pss_nil)
      (pss_one (ps_if (pt_cmpR op_ne (pe_def Gtold (hr.mono (by omega)) (pa_cons (pv 3) pa_nil)) (pv 6) (nomark _)) (pss_one (ps_ret pe_bl)) pss_nil))))))))))
      (pss_one (ps_ret pe_bl))), ?_⟩
  refine ⟨(by show 4 ≤ sizeLine; decide), fun pl hpl => ⟨pl, rfl, ⟨_, SqL.of upd_same⟩, for_list (K := K) (a := pl) (xs := [.str "plus", .str "less", .str "times", .str "share"])
    (fun j σ H' => ∃ (y1 y2 y3 y4 y5 : Option V), σ = [some v1, some v2, y1, y2, y3, y4, y5] ∧ Same (upd H pl (.lst [.str "plus", .str "less", .str "times", .str "share"])) H') ⟨_, _, _, _, _, rfl, Same.refl _⟩ (fun j σ H' _ ⟨_, _, _, _, _, _, g⟩ => SqL.of (g _ _ upd_same)) ?_ ?_⟩⟩
  · rintro j y σ H0 hj ⟨y1, y2, y3, y4, y5, rfl, s0⟩
    obtain ⟨wd', rfl, hwo⟩ : ∃ wd : Str, y = .str wd ∧ okWord wd := by
      have hy := List.mem_of_getElem? hj
      simp only [List.mem_cons, List.not_mem_nil, or_false] at hy
      rcases hy with rfl | rfl | rfl | rfl
      · exact ⟨_, rfl, .inl rfl⟩
      · exact ⟨_, rfl, .inr (.inl rfl)⟩
      · exact ⟨_, rfl, .inr (.inr (.inl rfl))⟩
      · exact ⟨_, rfl, .inr (.inr (.inr rfl))⟩
    have S0 : Same H H0 := (Same.new hpl).trans s0
    have okX : (Way.op wd' x1 x2).ok 1000000 := ⟨hwo, ho1, ho2⟩
    have szX : (Way.op wd' x1 x2).size ≤ 100 := by show x1.size + x2.size ≤ 100; omega
    have fitX : (Way.op wd' x1 x2).fit := fit_of okX szX
    have ndX : (Way.op wd' x1 x2).nodes ≤ 1000 := by show x1.nodes + x2.nodes + 1 ≤ 1000; omega
    refine ⟨_, rfl, _, rfl, _, rfl, (by show 3 ≤ sizeLine; decide), fun pw hpw => ?_⟩
    have wX : WayIn (upd H0 pw (.tup [.str wd', v1, v2])) (.ref pw) (.op wd' x1 x2) := .op upd_same ((hw1.kt (KT.same S0)).kt (KT.new hpw)) ((hw2.kt (KT.same S0)).kt (KT.new hpw))
    have S1 : Same H0 (upd H0 pw (.tup [.str wd', v1, v2])) := Same.new hpw
    have w1 := (hw1.kt (KT.same S0)).kt (KT.same S1)
    have w2 := (hw2.kt (KT.same S0)).kt (KT.same S1)
    generalize upd H0 pw (.tup [.str wd', v1, v2]) = H1 at wX S1 w1 w2 ⊢
    refine ⟨_, rfl, .ref pw, _, 1000000, rfl, wX, okX, topM, szX, fun H2 s2 => ⟨_, 1000000, rfl, okX, topM, szX, fun vr H3 s3 wr => ?_⟩⟩
    have kt3 : KT H1 H3 := KT.same (s2.trans s3)
    refine ⟨_, rfl, [.str wd', wd x1, wd x2], [.str wd', wd x1, wd x2], .inr ⟨wayRep wr, wayRep (wX.kt kt3)⟩, by rw [wd_deps]; omega, ?_⟩
    rw [if_pos rfl, eqDs_refl]
    refine ⟨_, rfl, iteF ?_⟩
    -- numbers
    refine ⟨_, rfl, .ref pw, _, rfl, wX.kt kt3, ndX, fun t4 H4 s4 h4 => ?_⟩
    have S4 : Same H1 H4 := (s2.trans s3).trans s4
    refine ⟨_, rfl, v1, x1, rfl, w1.kt (KT.same S4), by omega, fun t5 H5 s5 h5 => ⟨_, rfl, v2, x2, rfl, (w2.kt (KT.same S4)).kt (KT.same s5), by omega, fun t6 H6 s6 h6 => ?_⟩⟩
    have l1 := x1.nums_len
    have l2 := x2.nums_len
    have e1 : x1.nums.map V.int ≠ [] := fun z => by have := congrArg List.length z; simp [l1] at this; omega
    have e2 : x2.nums.map V.int ≠ [] := fun z => by have := congrArg List.length z; simp [l2] at this; omega
    refine ⟨t5, t6, _, _, rfl, rfl, SqT.of (s6 _ _ h5), SqT.of h6, e1, small1000' (by simp only [List.length_map, l1, l2]; omega), fun z => absurd z e2, fun _ p7 hp7 => ?_⟩
    refine ⟨(Way.op wd' x1 x2).nums.map D.int, (Way.op wd' x1 x2).nums.map D.int, .inr ⟨⟨t4, _, rfl, SqT.of (Same.new hp7 _ _ (s6 _ _ (s5 _ _ h4))), reps_ints _⟩, ⟨p7, _, rfl, SqT.of upd_same, ?_⟩⟩, by rw [deps_ints]; decide, ?_⟩
    · rw [← List.map_append]
      exact reps_ints _
    rw [if_pos rfl, eqDs_refl]
    refine ⟨_, rfl, iteF ?_⟩
    have S7 : Same H1 (upd H6 p7 (.tup (x1.nums.map V.int ++ x2.nums.map V.int))) := S4.trans (s5.trans (s6.trans (Same.new hp7)))
    generalize upd H6 p7 (.tup (x1.nums.map V.int ++ x2.nums.map V.int)) = H7 at S7 ⊢
    -- deeds
    have dX : (Way.op wd' x1 x2).deeds = x1.deeds + x2.deeds + 1 := rfl
    refine ⟨_, rfl, .ref pw, _, rfl, wX.kt (KT.same S7), ndX, fun H8 s8 => ⟨_, rfl, v1, x1, rfl, (w1.kt (KT.same S7)).kt (KT.same s8), by omega, fun H9 s9 => ⟨_, rfl, v2, x2, rfl, ((w2.kt (KT.same S7)).kt (KT.same s8)).kt (KT.same s9), by omega, fun H10 s10 => ?_⟩⟩⟩
    refine ⟨_, _, rfl, rfl, _, _, rfl, rfl, rfl, _, rfl, iteNS (congrArg V.int (by rw [dX]; omega)) ?_⟩
    have S10 : Same H1 H10 := S7.trans (s8.trans (s9.trans s10))
    have dl := (Way.op wd' x1 x2).deeds_lt
    refine ⟨_, rfl, .ref pw, _, rfl, wX.kt (KT.same S10), ndX, fun H11 s11 => ⟨_, rfl, .ref pw, _, rfl, (wX.kt (KT.same S10)).kt (KT.same s11), ndX, fun t12 H12 s12 h12 => ?_⟩⟩
    refine ⟨t12, _, rfl, .inr (SqT.of h12), _, _, rfl, rfl, rfl, _, rfl, iteNS (congrArg V.int (by rw [List.length_map, Way.nums_len]; omega)) ?_⟩
    have S12 : Same H1 H12 := S10.trans (s11.trans s12)
    -- worths
    refine ⟨_, rfl, v1, x1, rfl, w1.kt (KT.same S12), fit1, by omega, fun H13 s13 => ⟨_, rfl, v2, x2, rfl, (w2.kt (KT.same S12)).kt (KT.same s13), fit2, by omega, fun H14 s14 => ⟨(by show 2 ≤ sizeLine; decide), fun pq hpq => ?_⟩⟩⟩
    have S14 : Same H1 (upd H14 pq (.lst [resV (worthE x1), resV (worthE x2)])) := S12.trans (s13.trans (s14.trans (Same.new hpq)))
    have gq : upd H14 pq (.lst [resV (worthE x1), resV (worthE x2)]) pq = some (.lst [resV (worthE x1), resV (worthE x2)]) := upd_same
    generalize upd H14 pq (.lst [resV (worthE x1), resV (worthE x2)]) = H15 at S14 gq ⊢
    refine ⟨_, rfl, pq, rfl, ⟨_, SqL.of gq⟩, fun Dl hD C s3' fp => comp_list (K := K) (a := pq) (xs := [resV (worthE x1), resV (worthE x2)])
      (fun i ys σ H' => ∃ z, σ = [z] ∧ Same H15 H' ∧ ys = ([resV (worthE x1), resV (worthE x2)].take i).filter isS) (fun i ys σ H' ⟨_, _, g, _⟩ => SqL.of (g _ _ gq)) ⟨none, rfl, Same.new hD, rfl⟩ ?_ ?_⟩
    · rintro i y ys σ H' hi hl ⟨z, rfl, sH, ey⟩ e
      have tf := take_filter (p := isS) hi
      have il : i < 2 := (List.getElem?_eq_some_iff.mp hi).1
      have hy : (∃ k, y = .int k) ∨ ∃ k, y = .str k := by
        have := List.mem_of_getElem? hi
        simp only [List.mem_cons, List.not_mem_nil, or_false] at this
        rcases this with rfl | rfl
        · cases worthE x1 with
          | inl e => exact .inr ⟨e, rfl⟩
          | inr n => exact .inl ⟨n, rfl⟩
        · cases worthE x2 with
          | inl e => exact .inr ⟨e, rfl⟩
          | inr n => exact .inl ⟨n, rfl⟩
      rcases hy with ⟨k, rfl⟩ | ⟨k, rfl⟩
      · refine ⟨_, rfl, _, _, TyOf.int _, kit_int_str _, _, rfl, iteF ?_⟩
        refine ⟨ys, Nat.le_succ_of_le hl, ⟨_, rfl, sH, ?_⟩, e⟩
        rw [tf, ey]
        show _ = _ ++ []
        rw [List.append_nil]
      · refine ⟨_, rfl, _, _, TyOf.str _, kit_str_str _, _, rfl, iteT ?_⟩
        refine ⟨_, rfl, ys, e, small1000 (by omega), ?_⟩
        refine ⟨_, by rw [List.length_append]; exact Nat.add_le_add_right hl 1, ⟨_, rfl, fun b o eb => ?_, ?_⟩, upd_same⟩
        · rw [upd_ne (ne_of_none eb hD)]; exact sH b o eb
        · rw [tf, ey]; rfl
    rintro ys σ H16 ⟨z, rfl, sH, ey⟩ eD
    have ey' : ys = [resV (worthE x1), resV (worthE x2)].filter isS := ey
    subst ey'
    have S16 : Same H1 H16 := S14.trans sH
    have gq16 := sH _ _ gq
    have eX := worthE_op wd' x1 x2
    have cs : (∃ (e : Str) (rest : List V), [resV (worthE x1), resV (worthE x2)].filter isS = .str e :: rest ∧ rest.length ≤ 5 ∧ worthE (.op wd' x1 x2) = .inl e) ∨ ∃ n1 n2, worthE x1 = .inr n1 ∧ worthE x2 = .inr n2 ∧ worthE (.op wd' x1 x2) = byE wd' n1 n2 := by
      cases ea : worthE x1 with
      | inl e1 =>
        rw [ea] at eX
        exact .inl ⟨e1, [resV (worthE x2)].filter isS, rfl, Nat.le_trans (List.length_filter_le _ _) (by show 1 ≤ 5; decide), eX⟩
      | inr n1 =>
        rw [ea] at eX
        cases eb : worthE x2 with
        | inl e2 =>
          rw [eb] at eX
          exact .inl ⟨e2, [], rfl, by decide, eX⟩
        | inr n2 =>
          rw [eb] at eX
          exact .inr ⟨n1, n2, rfl, rfl, eX⟩
    rcases cs with ⟨e, rest, ef, hrest, eW⟩ | ⟨n1, n2, ea, eb, eW⟩
    · rw [ef] at eD
      refine ⟨_, rfl, (by show 1 ≤ sizeLine; decide), fun q1 hq1 => ⟨Dl, q1, _, _, rfl, rfl, Same.new hq1 _ _ eD, upd_same, small1000' (by simp only [List.length_cons, List.length_nil]; omega), fun q2 hq2 => ⟨q2, _, 0, .str e, rfl, rfl, SqL.of upd_same, atI_nat (j := 0) rfl, ?_⟩⟩⟩
      have T2 := (Same.new (o := .lst [.str ""]) hq1).trans (Same.new (o := .lst (.str e :: rest ++ [.str ""])) hq2)
      refine ⟨_, rfl, (by show 0 ≤ sizeLine; decide), fun q3 hq3 => ⟨Dl, q3, _, rfl, rfl, SqL.of (Same.new hq3 _ _ (T2 _ _ eD)), SqL.of upd_same, _, rfl, iteF ?_⟩⟩
      have T3 := S16.trans (T2.trans (Same.new (o := .lst []) hq3))
      refine ⟨_, rfl, .ref pw, _, rfl, wX.kt (KT.same T3), fitX, ndX, fun H20 s20 => ?_⟩
      rw [eW]
      refine ⟨_, rfl, rfl, _, rfl, iteNS rfl ?_⟩
      exact ⟨_, _, _, _, _, rfl, s0.trans (S1.trans (T3.trans s20))⟩
    · rw [ea, eb] at eD gq16
      have eD' : H16 Dl = some (.lst []) := eD
      refine ⟨_, rfl, (by show 1 ≤ sizeLine; decide), fun q1 hq1 => ⟨Dl, q1, _, _, rfl, rfl, Same.new hq1 _ _ eD', upd_same, (by decide), fun q2 hq2 => ⟨q2, _, 0, .str "", rfl, rfl, SqL.of upd_same, rfl, ?_⟩⟩⟩
      have T2 := (Same.new (o := .lst [.str ""]) hq1).trans (Same.new (o := .lst ([] ++ [.str ""])) hq2)
      refine ⟨_, rfl, (by show 0 ≤ sizeLine; decide), fun q3 hq3 => ⟨Dl, q3, _, rfl, rfl, SqL.of (Same.new hq3 _ _ (T2 _ _ eD')), SqL.of upd_same, _, rfl, iteT ?_⟩⟩
      have U3 := T2.trans (Same.new (o := .lst []) hq3)
      have T3 := S16.trans U3
      have b1 := fit1.worth ea
      have b2 := fit2.worth eb
      refine ⟨_, rfl, _, rfl, pq, _, 0, .int n1, rfl, rfl, SqL.of (U3 _ _ gq16), rfl, _, rfl, pq, _, 1, .int n2, rfl, rfl, SqL.of (U3 _ _ gq16), rfl, wd', n1, n2, rfl, hwo, b1.1, b1.2, b2.1, b2.2, fun H19 s19 => ?_⟩
      refine ⟨_, rfl, .ref pw, _, rfl, wX.kt (KT.same (T3.trans s19)), fitX, ndX, fun H20 s20 => ?_⟩
      rw [eW]
      cases byE wd' n1 n2 with
      | inl e =>
        refine ⟨_, rfl, rfl, _, rfl, iteNS rfl ?_⟩
        exact ⟨_, _, _, _, _, rfl, s0.trans (S1.trans (T3.trans (s19.trans s20)))⟩
      | inr n =>
        refine ⟨_, rfl, rfl, _, rfl, iteNS rfl ?_⟩
        exact ⟨_, _, _, _, _, rfl, s0.trans (S1.trans (T3.trans (s19.trans s20)))⟩
  · rintro σ H' ⟨y1, y2, y3, y4, y5, rfl, g⟩
    exact q _ ((Same.new hpl).trans g)
abbrev s_law_told_right : Stmt := top 43
theorem sc_law_told_right : FnScope ["way", "worth", "more"] ["way"] (defScope s_law_told_right) := ⟨rfl, rfl, rfl, by decide +kernel, rfl, by decide +kernel, by decide +kernel⟩
def spTR : Sp := fun vs H Q _ => ∃ (v : V) (x : Way) (n : Int), vs = [v] ∧ WayIn H v x ∧ x.ok 1000000 ∧ x.size ≤ 8 ∧ worthE x = .inr n ∧ ∀ H', Same H H' → Q (.bl true) H'
theorem big48 {x : Way} {n : Int} (ho : x.ok 1000000) (hz : x.size ≤ 8) (ew : worthE x = .inr n) : 1 ≤ n ∧ n ≤ 10 ^ 48 := by
  have h := worth_bound (m := 1000000) (by decide) ho ew
  have p := pow_le_pow (m := 1000000) (by decide) hz
  have e : (1000000 : Int) ^ 8 = 10 ^ 48 := by decide +kernel
  exact ⟨h.1, by omega⟩
theorem fit_more {n : Int} (h1 : 1 ≤ n) (h2 : n ≤ 10 ^ 48) : (Way.num n).fit ∧ (Way.op "plus" (.num n) (.num 1)).fit := by
  have k : ((10 : Int) ^ 48 + 1) * (10 ^ 48 + 1) < 2 ^ 4000 := by decide +kernel
  have k1 : (10 : Int) ^ 48 + 1 < 2 ^ 4000 := by decide +kernel
  have m : (n + 1) * (n + 1) ≤ ((10 : Int) ^ 48 + 1) * (10 ^ 48 + 1) := Int.mul_le_mul (by omega) (by omega) (by omega) (by omega)
  refine ⟨⟨n + 1, by omega, ⟨h1, by omega⟩, ?_⟩, ⟨n + 1, by omega, ⟨.inl rfl, ⟨h1, by omega⟩, ⟨by decide, by omega⟩⟩, ?_⟩⟩
  · show (n + 1) ^ 1 < 2 ^ 4000
    rw [Int.pow_succ, Int.pow_zero, Int.one_mul]; omega
  · show (n + 1) ^ 2 < 2 ^ 4000
    rw [Int.pow_succ, Int.pow_succ, Int.pow_zero, Int.one_mul]; omega
theorem ok_told_right {f : Addr} {fd : FuncData} (F : Fun K "_law_told_right" "_law_told_right" s_law_told_right f fd) (B : Blt mg) (Gshown : Def P w K mg base CX0 3 "way_shown" spShown) (Gread : Def P w K mg base CX0 4 "read_way" spRead) (Gnumbers : Def P w K mg base CX0 2 "numbers_of" spNumbers) (Gdeeds : Def P w K mg base CX0 2 "deeds_of" spDeeds)
    (Gworthof0 : Def P w K mg base CX0 9 "worth_of" spWorthOf) : FnOk P w K mg base CX0 12 f fd ["way"] spTR := by
  refine F.ok (k := 11) sc_law_told_right (fun vs H Q E h => ?_) (fun cdv A outer s H vs Q E hr h => ?_)
  · obtain ⟨v, x, n, rfl, _⟩ := h
    rfl
  obtain ⟨v, x, n, rfl, hx, ho, hz, ew, q⟩ := h
  obtain ⟨n1, n48⟩ := big48 ho hz ew
  obtain ⟨fn, fm⟩ := fit_more n1 n48
  have ntop : n < topN := by have : (10 : Int) ^ 48 < topN := by decide +kernel
                             omega
  have nn := x.nodes_eq
  refine ⟨_, (pss_cons (ps_set (i := 1) sc_law_told_right.nd rfl (by first | exact Or.inl rfl | exact Or.inr rfl) (pe_def Gworthof0 (hr.mono (by omega)) (pa_cons (pv 0) pa_nil)))
      (pss_cons (ps_if (PW.pt (pw_or (pt_cmpR (op_neS (hu60 hr)) (pe_def Gnumbers (hr.mono (by omega)) (pa_cons (pv 1) pa_nil)) (pe_tup (pa_cons (pv 1) pa_nil)) (nomark _)) (pw_or (pt_cmpR op_ne (pe_def Gdeeds (hr.mono (by omega)) (pa_cons (pv 1) pa_nil)) pe_int (nomark _)) (pw_or1 (pt_cmpR op_ne (pe_def Gworthof0 (hr.mono (by omega)) (pa_cons (pv 1) pa_nil)) (pv 1) (nomark _)))))) (pss_one (ps_ret pe_bl)) pss_nil)
      (pss_cons (ps_set (i := 2) sc_law_told_right.nd rfl (by first | exact Or.inl rfl | exact Or.inr rfl) (pe_tup (pa_cons pe_str (pa_cons (pv 1) (pa_cons pe_int pa_nil)))))
      (pss_cons (ps_if (PW.pt (pw_or (pt_cmpR op_ne (pe_def Gread (hr.mono (by omega)) (pa_cons (pe_def Gshown (hr.mono (by omega)) (pa_cons (pv 1) pa_nil)) pa_nil)) (pv 1) (nomark _)) (pw_or1 (pt_cmpR (op_neS (hu60 hr)) (pe_def Gread (hr.mono (by omega)) (pa_cons (pe_def Gshown (hr.mono (by omega)) (pa_cons (pv 2) pa_nil)) pa_nil)) (pv 2) (nomark _))))) (pss_one (ps_ret pe_bl)) pss_nil)
      (pss_one (ps_ret (pe_cmpR op_eq (pe_def Gworthof0 (hr.mono (by omega)) (pa_cons (pv 2) pa_nil)) (pe_op op_add (pv 1) pe_int) (nomark _)))))))), ?_⟩
  refine ⟨_, rfl, v, x, n, rfl, hx, fit_of ho (by omega), by omega, ew, fun H1 s1 => ?_⟩
  refine ⟨_, rfl, .int n, .num n, rfl, .num n, (by show 1 ≤ 1000; decide), fun t2 H2 s2 h2 => ⟨_, rfl, (by show 1 ≤ sizeLine; decide), fun p3 hp3 => ⟨[D.int n], [D.int n], .inr ⟨⟨t2, _, rfl, SqT.of (Same.new hp3 _ _ h2), reps_ints [n]⟩, ⟨p3, _, rfl, SqT.of upd_same, reps_ints [n]⟩⟩, (by show 0 ≤ 50; decide), ?_⟩⟩⟩
  rw [if_pos rfl, eqDs_refl]
  refine ⟨_, rfl, iteF ?_⟩
  have S3 : Same H (upd H2 p3 (.tup [.int n])) := s1.trans (s2.trans (Same.new hp3))
  generalize upd H2 p3 (.tup [.int n]) = H3 at S3 ⊢
  refine ⟨_, rfl, .int n, .num n, rfl, .num n, (by show 1 ≤ 1000; decide), fun H4 s4 => ⟨rfl, _, rfl, iteNS rfl ?_⟩⟩
  refine ⟨_, rfl, .int n, .num n, n, rfl, .num n, fn, (by show 1 ≤ 1000; decide), rfl, fun H5 s5 => ⟨_, rfl, rfl, _, rfl, iteNS rfl ?_⟩⟩
  refine ⟨_, rfl, (by show 3 ≤ sizeLine; decide), fun pm hpm => ?_⟩
  have wX : WayIn (upd H5 pm (.tup [.str "plus", .int n, .int 1])) (.ref pm) (.op "plus" (.num n) (.num 1)) := .op upd_same (.num n) (.num 1)
  have S5 : Same H (upd H5 pm (.tup [.str "plus", .int n, .int 1])) := S3.trans (s4.trans (s5.trans (Same.new hpm)))
  generalize upd H5 pm (.tup [.str "plus", .int n, .int 1]) = H6 at S5 wX ⊢
  refine ⟨_, rfl, .int n, .num n, n, rfl, .num n, ⟨n1, Int.le_refl _⟩, ntop, (by show 1 ≤ 100; decide), fun H7 s7 => ⟨.num n, n, rfl, ⟨n1, Int.le_refl _⟩, ntop, (by show 1 ≤ 100; decide), fun vr H8 s8 wr => ?_⟩⟩
  cases wr
  refine ⟨_, rfl, rfl, _, rfl, iteNS rfl ?_⟩
  have okm : (Way.op "plus" (.num n) (.num 1)).ok n := ⟨.inl rfl, ⟨n1, Int.le_refl _⟩, ⟨by decide, n1⟩⟩
  have w8 := (wX.kt (KT.same s7)).kt (KT.same s8)
  refine ⟨_, rfl, .ref pm, _, n, rfl, w8, okm, ntop, (by show 2 ≤ 100; decide), fun H9 s9 => ⟨_, n, rfl, okm, ntop, (by show 2 ≤ 100; decide), fun vr H10 s10 wr => ?_⟩⟩
  refine ⟨_, rfl, [.str "plus", wd (.num n), wd (.num 1)], [.str "plus", wd (.num n), wd (.num 1)], .inr ⟨wayRep wr, wayRep ((w8.kt (KT.same s9)).kt (KT.same s10))⟩, by rw [wd_deps]; exact Nat.zero_le _, ?_⟩
  rw [if_pos rfl, eqDs_refl]
  refine ⟨_, rfl, iteF ?_⟩
  refine ⟨_, rfl, .ref pm, _, n + 1, rfl, (w8.kt (KT.same s9)).kt (KT.same s10), fm, (by show 3 ≤ 1000; decide), rfl, fun H11 s11 => ⟨_, rfl, _, _, rfl, rfl, rfl, ?_⟩⟩
  rw [decide_eq_true rfl]
  exact q _ (S5.trans (s7.trans (s8.trans (s9.trans (s10.trans s11)))))
abbrev s_law : Stmt := top 44
theorem sc_law : FnScope ["script", "deck", "turn", "one", "other", "third", "word", "left"] ["script"] (defScope s_law) := ⟨rfl, rfl, rfl, by decide +kernel, rfl, by decide +kernel, by decide +kernel⟩
theorem both {y : V} (hy : y ∈ [V.str "plus", V.str "times"]) : ∃ (wd : Str) (f : Int → Int → Int), y = .str wd ∧ okWord wd ∧ (∀ a b, byE wd a b = .inr (f a b)) ∧ (∀ a b c, f (f a b) c = f a (f b c)) ∧ ∀ a b c, f (f a b) c = f c (f b a) := by
  simp only [List.mem_cons, List.not_mem_nil, or_false] at hy
  rcases hy with rfl | rfl
  · exact ⟨"plus", fun a b => a + b, rfl, .inl rfl, fun a b => rfl, fun a b c => by show a + b + c = a + (b + c); omega, fun a b c => by show a + b + c = c + (b + a); omega⟩
  · refine ⟨"times", fun a b => a * b, rfl, .inr (.inr (.inl rfl)), fun a b => ?_, fun a b c => Int.mul_assoc a b c, fun a b c => ?_⟩
    · unfold byE; rw [if_neg (by decide +kernel), if_pos rfl]
    · show a * b * c = c * (b * a)
      rw [Int.mul_comm (a * b) c, Int.mul_comm a b]
theorem worth3 {wd : Str} {f : Int → Int → Int} (hf : ∀ a b, byE wd a b = .inr (f a b)) {a b : Way} {i j : Int} (ha : worthE a = .inr i) (hb : worthE b = .inr j) : worthE (.op wd a b) = .inr (f i j) := by
  rw [worthE_op, ha]
  dsimp only
  rw [hb]
  exact hf i j
theorem ok_law {f : Addr} {fd : FuncData} (F : Fun K "law" "law" s_law f fd) (B : Blt mg) (Gdeck : Def P w K mg base CX0 1 "_law_deck" (spDeck K)) (Gsize : Def P w K mg base CX0 2 "_law_size" (spDraw 8)) (Gtake : Def P w K mg base CX0 1 "_law_take" spTake)
    (Gany : Def P w K mg base CX0 11 "_law_any_way" (spAny 8)) (Ggood : Def P w K mg base CX0 21 "_law_good_way" (spGood 8)) (Gright : Def P w K mg base CX0 12 "_law_right" spRight) (Gtr : Def P w K mg base CX0 12 "_law_told_right" spTR) (Gworthof0 : Def P w K mg base CX0 9 "worth_of" spWorthOf) : FnOk P w K mg base CX0 30 f fd ["script"] (spLaw K) := by
  refine F.ok (k := 29) sc_law (fun vs H Q E h => ?_) (fun cdv A outer s H vs Q E hr h => ?_)
  · obtain ⟨a, ns, rfl, _⟩ := h
    rfl
  obtain ⟨a, ns, rfl, hS, hl, q⟩ := h
  refine ⟨_, (pss_cons (ps_set (i := 1) sc_law.nd rfl (by first | exact Or.inl rfl | exact Or.inr rfl) (pe_def Gdeck (hr.mono (by omega)) (pa_cons (pv 0) pa_nil)))
      (pss_cons (ps_for PassesOwn.never rfl (pi_range1 rfl B.range (pa_cons pe_int pa_nil)) (pg_name (i := 2) sc_law.nd rfl (by first | exact Or.inl rfl | exact Or.inr rfl)) (pss_cons (ps_set (i := 3) sc_law.nd rfl (by first | exact Or.inl rfl | exact Or.inr rfl) (pe_def Ggood (hr.mono (by omega)) (pa_cons (pv 1) (pa_cons (pe_op op_add pe_int (pe_def Gtake (hr.mono (by omega)) (pa_cons (pv 1) (pa_cons pe_int pa_nil)))) pa_nil))))
      (pss_cons (ps_set (i := 4) sc_law.nd rfl (by first | exact Or.inl rfl | exact Or.inr rfl) (pe_def Ggood (hr.mono (by omega)) (pa_cons (pv 1) (pa_cons (pe_op op_add pe_int (pe_def Gtake (hr.mono (by omega)) (pa_cons (pv 1) (pa_cons pe_int pa_nil)))) pa_nil))))
      (pss_cons (ps_set (i := 5) sc_law.nd rfl (by first | exact Or.inl rfl | exact Or.inr rfl) (pe_def Ggood (hr.mono (by omega)) (pa_cons (pv 1) (pa_cons pe_int pa_nil))))
      (pss_cons (ps_if (pt_not (pt_val (pe_def Gtr (hr.mono (by omega)) (pa_cons (pe_def Ggood (hr.mono (by omega)) (pa_cons (pv 1) (pa_cons (pe_def Gsize (hr.mono (by omega)) (pa_cons (pv 1) pa_nil)) pa_nil))) pa_nil)))) (pss_one (ps_ret pe_bl)) pss_nil)
      (pss_cons (ps_if (PW.pt (pw_or (pt_not (pt_val (pe_def Gright (hr.mono (by omega)) (pa_cons (pv 3) (pa_cons (pv 4) pa_nil))))) (pw_or1 (pt_not (pt_val (pe_def Gright (hr.mono (by omega)) (pa_cons (pv 4) (pa_cons (pe_def Gany (hr.mono (by omega)) (pa_cons (pv 1) (pa_cons (pe_op op_add pe_int (pe_def Gtake (hr.mono (by omega)) (pa_cons (pv 1) (pa_cons pe_int pa_nil)))) pa_nil))) pa_nil)))))))) (pss_one (ps_ret pe_bl)) pss_nil)
      (pss_one (ps_for PassesOwn.never rfl (pi_list (pe_lst (pa_cons pe_str (pa_cons pe_str pa_nil)))) (pg_name (i := 6) sc_law.nd rfl (by first | exact Or.inl rfl | exact Or.inr rfl)) (pss_cons (ps_set (i := 7) sc_law.nd rfl (by first | exact Or.inl rfl | exact Or.inr rfl) (pe_def Gworthof0 (hr.mono (by omega)) (pa_cons (pe_tup (pa_cons (pv 6) (pa_cons (pe_tup (pa_cons (pv 6) (pa_cons (pv 3) (pa_cons (pv 4) pa_nil)))) (pa_cons (pv 5) pa_nil)))) pa_nil)))
      (pss_cons (ps_if (pt_cmpR op_ne (pv 7) (pe_def Gworthof0 (hr.mono (by omega)) (pa_cons (pe_tup (pa_cons (pv 6) (pa_cons (pv 3) (pa_cons (pe_tup (pa_cons (pv 6) (pa_cons (pv 4) (pa_cons (pv 5) pa_nil)))) pa_nil)))) pa_nil)) (nomark _)) (pss_one (ps_ret pe_bl)) pss_nil)
      (pss_one (ps_if (pt_cmpR op_ne (pv 7) (pe_def Gworthof0 (hr.mono (by omega)) (pa_cons (pe_tup (pa_cons (pv 6) (pa_cons (pv 5) (pa_cons (pe_tup (pa_cons (pv 6) (pa_cons (pv 4) (pa_cons (pv 3) pa_nil)))) pa_nil)))) pa_nil)) (nomark _)) (pss_one (ps_ret pe_bl)) pss_nil))))))))))))
      (pss_one (ps_ret pe_bl)))), ?_⟩
  refine ⟨_, rfl, a, ns, rfl, hS, hl, fun d c H1 s1 nd nc D => ?_⟩
  refine ⟨6, rfl, by decide, by decide, for_range (n := 6) (fun i σ H' => ∃ (z1 z2 z3 z4 z5 z6 : Option V), σ = [some (.ref a), some (.ref d), z1, z2, z3, z4, z5, z6] ∧ DeckAt H' d c) ⟨none, none, none, none, none, none, rfl, D⟩ ?_ ?_⟩
  · rintro i σ H' hi ⟨z1, z2, z3, z4, z5, z6, rfl, D'⟩
    refine ⟨_, rfl, _, rfl, d, c, 4, rfl, D', by decide, by decide, fun r1 H2 a1 b1 k2 D2 => ⟨_, _, rfl, rfl, d, c, _, rfl, D2, by omega, by omega, by omega, fun v1 x1 n1 H3 w1 o1 y1 e1 k3 D3 => ?_⟩⟩
    refine ⟨_, rfl, _, rfl, d, c, 3, rfl, D3, by decide, by decide, fun r2 H4 a2 b2 k4 D4 => ⟨_, _, rfl, rfl, d, c, _, rfl, D4, by omega, by omega, by omega, fun v2 x2 n2 H5 w2 o2 y2 e2 k5 D5 => ?_⟩⟩
    refine ⟨_, rfl, d, c, 1, rfl, D5, by decide, by decide, by decide, fun v3 x3 n3 H6 w3 o3 y3 e3 k6 D6 => ?_⟩
    have kt36 : KT H3 H6 := ((D3.kt k4).trans (D4.kt k5)).trans (D5.kt k6)
    have w1' := w1.kt kt36
    have w2' := w2.kt (D5.kt k6)
    refine ⟨_, rfl, _, rfl, d, c, rfl, D6, fun r H7 r1' r2' k7 D7 => ⟨d, c, r, rfl, D7, r1', r2', r2', fun v4 x4 n4 H8 w4 o4 y4 e4 k8 D8 => ⟨v4, x4, n4, rfl, w4, o4, by omega, e4, fun H9 s9 => ⟨_, rfl, iteF ?_⟩⟩⟩⟩
    have kt69 : KT H6 H9 := ((D6.kt k7).trans (D7.kt k8)).trans (KT.same s9)
    have D9 := D8.same s9
    refine ⟨_, rfl, _, rfl, v1, v2, x1, x2, rfl, w1'.kt kt69, w2'.kt kt69, o1, o2, by omega, fun H10 s10 => ⟨_, rfl, iteF ?_⟩⟩
    have D10 := D9.same s10
    have kt610 := kt69.trans (KT.same s10)
    refine ⟨_, rfl, _, rfl, _, rfl, d, c, 3, rfl, D10, by decide, by decide, fun r5 H11 a5 b5 k11 D11 => ⟨_, _, rfl, rfl, d, c, _, rfl, D11, by omega, by omega, by omega, fun v5 x5 H12 w5 o5 y5 k12 D12 => ?_⟩⟩
    have kt612 := kt610.trans ((D10.kt k11).trans (D11.kt k12))
    refine ⟨v2, v5, x2, x5, rfl, w2'.kt kt612, w5, o2, o5, by omega, fun H13 s13 => ⟨_, rfl, iteF ?_⟩⟩
    have D13 := D12.same s13
    have kt613 := kt612.trans (KT.same s13)
    have u1 := w1'.kt kt613
    have u2 := w2'.kt kt613
    have u3 := w3.kt kt613
    refine ⟨(by show 2 ≤ sizeLine; decide), fun pl hpl => ⟨pl, rfl, ⟨_, SqL.of upd_same⟩, for_list (K := K) (a := pl) (xs := [.str "plus", .str "times"])
      (fun j σ H' => ∃ (y1 y2 y3 : Option V), σ = [some (.ref a), some (.ref d), y1, some v1, some v2, some v3, y2, y3] ∧ Same (upd H13 pl (.lst [.str "plus", .str "times"])) H') ⟨_, _, _, rfl, Same.refl _⟩ (fun j σ H' _ ⟨_, _, _, _, g⟩ => SqL.of (g _ _ upd_same)) ?_ ?_⟩⟩
    · rintro j y σ H14 hj ⟨q1, q2, q3, rfl, s14⟩
      obtain ⟨wd', g, rfl, hwo, hg, as1, as2⟩ := both (List.mem_of_getElem? hj)
      have S14 : Same H13 H14 := (Same.new hpl).trans s14
      refine ⟨_, rfl, _, rfl, _, rfl, _, rfl, (by show 3 ≤ sizeLine; decide), fun p1 hp1 => ⟨_, rfl, (by show 3 ≤ sizeLine; decide), fun p2 hp2 => ?_⟩⟩
      have T2 := (Same.new (o := .tup [.str wd', v1, v2]) hp1).trans (Same.new (o := .tup [.str wd', .ref p1, v3]) hp2)
      have f1 : (Way.op wd' (.op wd' x1 x2) x3).fit := fit_of (⟨hwo, ⟨hwo, o1, o2⟩, o3⟩ : (Way.op wd' (.op wd' x1 x2) x3).ok 1000000) (by show x1.size + x2.size + x3.size ≤ 100; omega)
      have m1 := (Way.op wd' (.op wd' x1 x2) x3).nodes_eq
      have z1 : (Way.op wd' (.op wd' x1 x2) x3).size = x1.size + x2.size + x3.size := rfl
      refine ⟨.ref p2, .op wd' (.op wd' x1 x2) x3, g (g n1 n2) n3, rfl, .op upd_same (.op (Same.new hp2 _ _ upd_same) ((u1.kt (KT.same S14)).kt (KT.same T2)) ((u2.kt (KT.same S14)).kt (KT.same T2))) ((u3.kt (KT.same S14)).kt (KT.same T2)), f1, by omega, worth3 hg (worth3 hg e1 e2) e3, fun H15 s15 => ?_⟩
      have S15 : Same H14 H15 := T2.trans s15
      refine ⟨_, rfl, _, rfl, _, rfl, _, rfl, _, rfl, _, rfl, (by show 3 ≤ sizeLine; decide), fun p3 hp3 => ⟨(by show 3 ≤ sizeLine; decide), fun p4 hp4 => ?_⟩⟩
      have T4 := (Same.new (o := .tup [.str wd', v2, v3]) hp3).trans (Same.new (o := .tup [.str wd', v1, .ref p3]) hp4)
      have f2 : (Way.op wd' x1 (.op wd' x2 x3)).fit := fit_of (⟨hwo, o1, ⟨hwo, o2, o3⟩⟩ : (Way.op wd' x1 (.op wd' x2 x3)).ok 1000000) (by show x1.size + (x2.size + x3.size) ≤ 100; omega)
      have m2 := (Way.op wd' x1 (.op wd' x2 x3)).nodes_eq
      have z2 : (Way.op wd' x1 (.op wd' x2 x3)).size = x1.size + (x2.size + x3.size) := rfl
      have K15 := KT.same (S14.trans (S15.trans T4))
      refine ⟨.ref p4, .op wd' x1 (.op wd' x2 x3), g n1 (g n2 n3), rfl, .op upd_same (u1.kt K15) (.op (Same.new hp4 _ _ upd_same) (u2.kt K15) (u3.kt K15)), f2, by omega, worth3 hg e1 (worth3 hg e2 e3), fun H16 s16 => ⟨rfl, _, rfl, iteNS (congrArg V.int (as1 _ _ _)) ?_⟩⟩
      have S16 : Same H14 H16 := S15.trans (T4.trans s16)
      refine ⟨_, rfl, _, rfl, _, rfl, _, rfl, _, rfl, _, rfl, (by show 3 ≤ sizeLine; decide), fun p5 hp5 => ⟨(by show 3 ≤ sizeLine; decide), fun p6 hp6 => ?_⟩⟩
      have T6 := (Same.new (o := .tup [.str wd', v2, v1]) hp5).trans (Same.new (o := .tup [.str wd', v3, .ref p5]) hp6)
      have f3 : (Way.op wd' x3 (.op wd' x2 x1)).fit := fit_of (⟨hwo, o3, ⟨hwo, o2, o1⟩⟩ : (Way.op wd' x3 (.op wd' x2 x1)).ok 1000000) (by show x3.size + (x2.size + x1.size) ≤ 100; omega)
      have m3 := (Way.op wd' x3 (.op wd' x2 x1)).nodes_eq
      have z3 : (Way.op wd' x3 (.op wd' x2 x1)).size = x3.size + (x2.size + x1.size) := rfl
      have K16 := KT.same (S14.trans (S16.trans T6))
      refine ⟨.ref p6, .op wd' x3 (.op wd' x2 x1), g n3 (g n2 n1), rfl, .op upd_same (u3.kt K16) (.op (Same.new hp6 _ _ upd_same) (u2.kt K16) (u1.kt K16)), f3, by omega, worth3 hg e3 (worth3 hg e2 e1), fun H17 s17 => ⟨rfl, _, rfl, iteNS (congrArg V.int (as2 _ _ _)) ?_⟩⟩
      exact ⟨_, _, _, rfl, s14.trans (S16.trans (T6.trans s17))⟩
    · rintro σ H14 ⟨q1, q2, q3, rfl, s14⟩
      exact ⟨_, _, _, _, _, _, rfl, D13.same ((Same.new hpl).trans s14)⟩
  · rintro σ H' ⟨z1, z2, z3, z4, z5, z6, rfl, D'⟩
    exact q _
end
end Law

set_option Elab.async false
set_option linter.all false
set_option maxRecDepth 100000
set_option maxHeartbeats 4000000
namespace Law
open PySem L2
def famOf (a b c d : Addr) (wd : Str) : Addr := if wd = "plus" then a else if wd = "less" then b else if wd = "times" then c else d
theorem all_mk {l : PySem.W.OpenLaw} {w : World} {K : PySem.W.Frag} {h : Heap} {mg : Str → Option Value} {fa : Addr} (X : K.In h) (G : h.Ns mainGlobals mg) (hfa : mg "law" = some (.ref fa))
    {f_plus : Addr} {od_plus an_plus : Option Addr} {sl_plus : Array (Option Value)} {oc_plus kV_plus dc_plus pm_plus cd_plus ct_plus : Value}
    {f_less : Addr} {od_less an_less : Option Addr} {sl_less : Array (Option Value)} {oc_less kV_less dc_less pm_less cd_less ct_less : Value}
    {f_times : Addr} {od_times an_times : Option Addr} {sl_times : Array (Option Value)} {oc_times kV_times dc_times pm_times cd_times ct_times : Value}
    {f_share : Addr} {od_share an_share : Option Addr} {sl_share : Array (Option Value)} {oc_share kV_share dc_share pm_share cd_share ct_share : Value}
    {f_steps_of : Addr} {od_steps_of an_steps_of : Option Addr} {sl_steps_of : Array (Option Value)} {oc_steps_of kV_steps_of dc_steps_of pm_steps_of cd_steps_of ct_steps_of : Value}
    {f_come_of : Addr} {od_come_of an_come_of : Option Addr} {sl_come_of : Array (Option Value)} {oc_come_of kV_come_of dc_come_of pm_come_of cd_come_of ct_come_of : Value}
    {f_number_itself : Addr} {od_number_itself an_number_itself : Option Addr} {sl_number_itself : Array (Option Value)} {oc_number_itself kV_number_itself dc_number_itself pm_number_itself cd_number_itself ct_number_itself : Value}
    {f_worth_by : Addr} {od_worth_by an_worth_by : Option Addr} {sl_worth_by : Array (Option Value)} {oc_worth_by kV_worth_by dc_worth_by pm_worth_by cd_worth_by ct_worth_by : Value}
    {f_in_brackets : Addr} {od_in_brackets an_in_brackets : Option Addr} {sl_in_brackets : Array (Option Value)} {oc_in_brackets kV_in_brackets dc_in_brackets pm_in_brackets cd_in_brackets ct_in_brackets : Value}
    {f_worth_of : Addr} {od_worth_of an_worth_of : Option Addr} {sl_worth_of : Array (Option Value)} {oc_worth_of kV_worth_of dc_worth_of pm_worth_of cd_worth_of ct_worth_of : Value}
    {f_deeds_of : Addr} {od_deeds_of an_deeds_of : Option Addr} {sl_deeds_of : Array (Option Value)} {oc_deeds_of kV_deeds_of dc_deeds_of pm_deeds_of cd_deeds_of ct_deeds_of : Value}
    {f_numbers_of : Addr} {od_numbers_of an_numbers_of : Option Addr} {sl_numbers_of : Array (Option Value)} {oc_numbers_of kV_numbers_of dc_numbers_of pm_numbers_of cd_numbers_of ct_numbers_of : Value}
    {f_figures_of : Addr} {od_figures_of an_figures_of : Option Addr} {sl_figures_of : Array (Option Value)} {oc_figures_of kV_figures_of dc_figures_of pm_figures_of cd_figures_of ct_figures_of : Value}
    {f_number_of : Addr} {od_number_of an_number_of : Option Addr} {sl_number_of : Array (Option Value)} {oc_number_of kV_number_of dc_number_of pm_number_of cd_number_of ct_number_of : Value}
    {f_way_shown : Addr} {od_way_shown an_way_shown : Option Addr} {sl_way_shown : Array (Option Value)} {oc_way_shown kV_way_shown dc_way_shown pm_way_shown cd_way_shown ct_way_shown : Value}
    {f_read_way : Addr} {od_read_way an_read_way : Option Addr} {sl_read_way : Array (Option Value)} {oc_read_way kV_read_way dc_read_way pm_read_way cd_read_way ct_read_way : Value}
    {f_is_figures : Addr} {od_is_figures an_is_figures : Option Addr} {sl_is_figures : Array (Option Value)} {oc_is_figures kV_is_figures dc_is_figures pm_is_figures cd_is_figures ct_is_figures : Value}
    {f_figures_end : Addr} {od_figures_end an_figures_end : Option Addr} {sl_figures_end : Array (Option Value)} {oc_figures_end kV_figures_end dc_figures_end pm_figures_end cd_figures_end ct_figures_end : Value}
    {f_pieces_of : Addr} {od_pieces_of an_pieces_of : Option Addr} {sl_pieces_of : Array (Option Value)} {oc_pieces_of kV_pieces_of dc_pieces_of pm_pieces_of cd_pieces_of ct_pieces_of : Value}
    {f_piece_at : Addr} {od_piece_at an_piece_at : Option Addr} {sl_piece_at : Array (Option Value)} {oc_piece_at kV_piece_at dc_piece_at pm_piece_at cd_piece_at ct_piece_at : Value}
    {f_way_closed : Addr} {od_way_closed an_way_closed : Option Addr} {sl_way_closed : Array (Option Value)} {oc_way_closed kV_way_closed dc_way_closed pm_way_closed cd_way_closed ct_way_closed : Value}
    {f_is_word : Addr} {od_is_word an_is_word : Option Addr} {sl_is_word : Array (Option Value)} {oc_is_word kV_is_word dc_is_word pm_is_word cd_is_word ct_is_word : Value}
    {f_is_way : Addr} {od_is_way an_is_way : Option Addr} {sl_is_way : Array (Option Value)} {oc_is_way kV_is_way dc_is_way pm_is_way cd_is_way ct_is_way : Value}
    {f_law_deck : Addr} {od_law_deck an_law_deck : Option Addr} {sl_law_deck : Array (Option Value)} {oc_law_deck kV_law_deck dc_law_deck pm_law_deck cd_law_deck ct_law_deck : Value}
    {f_law_take : Addr} {od_law_take an_law_take : Option Addr} {sl_law_take : Array (Option Value)} {oc_law_take kV_law_take dc_law_take pm_law_take cd_law_take ct_law_take : Value}
    {f_law_number : Addr} {od_law_number an_law_number : Option Addr} {sl_law_number : Array (Option Value)} {oc_law_number kV_law_number dc_law_number pm_law_number cd_law_number ct_law_number : Value}
    {f_law_by : Addr} {od_law_by an_law_by : Option Addr} {sl_law_by : Array (Option Value)} {oc_law_by kV_law_by dc_law_by pm_law_by cd_law_by ct_law_by : Value}
    {f_law_worth : Addr} {od_law_worth an_law_worth : Option Addr} {sl_law_worth : Array (Option Value)} {oc_law_worth kV_law_worth dc_law_worth pm_law_worth cd_law_worth ct_law_worth : Value}
    {f_law_any_way : Addr} {od_law_any_way an_law_any_way : Option Addr} {sl_law_any_way : Array (Option Value)} {oc_law_any_way kV_law_any_way dc_law_any_way pm_law_any_way cd_law_any_way ct_law_any_way : Value}
    {f_law_good_way : Addr} {od_law_good_way an_law_good_way : Option Addr} {sl_law_good_way : Array (Option Value)} {oc_law_good_way kV_law_good_way dc_law_good_way pm_law_good_way cd_law_good_way ct_law_good_way : Value}
    {f_law_size : Addr} {od_law_size an_law_size : Option Addr} {sl_law_size : Array (Option Value)} {oc_law_size kV_law_size dc_law_size pm_law_size cd_law_size ct_law_size : Value}
    {f_law_told : Addr} {od_law_told an_law_told : Option Addr} {sl_law_told : Array (Option Value)} {oc_law_told kV_law_told dc_law_told pm_law_told cd_law_told ct_law_told : Value}
    {f_law_right : Addr} {od_law_right an_law_right : Option Addr} {sl_law_right : Array (Option Value)} {oc_law_right kV_law_right dc_law_right pm_law_right cd_law_right ct_law_right : Value}
    {f_law_told_right : Addr} {od_law_told_right an_law_told_right : Option Addr} {sl_law_told_right : Array (Option Value)} {oc_law_told_right kV_law_told_right dc_law_told_right pm_law_told_right cd_law_told_right ct_law_told_right : Value}
    {f_law : Addr} {od_law an_law : Option Addr} {sl_law : Array (Option Value)} {oc_law kV_law dc_law pm_law cd_law ct_law : Value}
    {d_DEEDS : Addr} {es_DEEDS : Array DictEntry} {n_DEEDS : Nat}
    {d_SIGNS : Addr} {es_SIGNS : Array DictEntry} {n_SIGNS : Nat}
    {t_plus t_less t_times t_share tF : Tok}
    {C_NoWay N_NoWay : Addr} {nm_NoWay qn_NoWay : Str} {bs_NoWay sub_NoWay : List Value} {sn_NoWay : List Str} {ab_NoWay : Bool} {col_NoWay : Option Bool} {dd_NoWay : Option Addr} {k0_NoWay k1_NoWay k2_NoWay k3_NoWay k5_NoWay : Option Value} {bm_NoWay : List Value}
    {f_init : Addr}
    {od_init an_init : Option Addr} {sl_init : Array (Option Value)} {oc_init kV_init dc_init pm_init cd_init ct_init : Value}
    (a_plus : PySem.W.nsIn K mainGlobals "plus" = some (some (.ref f_plus))) (l_plus : K.lookup f_plus = some ⟨oc_plus, od_plus, .func (PySem.W.fnOf "plus" "plus" (defArgs s_plus) (defBody s_plus) (defScope s_plus) .none kV_plus dc_plus pm_plus an_plus cd_plus ct_plus), sl_plus⟩) (c_plus : PySem.W.codeIn K cd_plus "plus" = true) (k_plus : PySem.W.keepIn K (.ref f_plus) = true)
    (a_less : PySem.W.nsIn K mainGlobals "less" = some (some (.ref f_less))) (l_less : K.lookup f_less = some ⟨oc_less, od_less, .func (PySem.W.fnOf "less" "less" (defArgs s_less) (defBody s_less) (defScope s_less) .none kV_less dc_less pm_less an_less cd_less ct_less), sl_less⟩) (c_less : PySem.W.codeIn K cd_less "less" = true) (k_less : PySem.W.keepIn K (.ref f_less) = true)
    (a_times : PySem.W.nsIn K mainGlobals "times" = some (some (.ref f_times))) (l_times : K.lookup f_times = some ⟨oc_times, od_times, .func (PySem.W.fnOf "times" "times" (defArgs s_times) (defBody s_times) (defScope s_times) .none kV_times dc_times pm_times an_times cd_times ct_times), sl_times⟩) (c_times : PySem.W.codeIn K cd_times "times" = true) (k_times : PySem.W.keepIn K (.ref f_times) = true)
    (a_share : PySem.W.nsIn K mainGlobals "share" = some (some (.ref f_share))) (l_share : K.lookup f_share = some ⟨oc_share, od_share, .func (PySem.W.fnOf "share" "share" (defArgs s_share) (defBody s_share) (defScope s_share) .none kV_share dc_share pm_share an_share cd_share ct_share), sl_share⟩) (c_share : PySem.W.codeIn K cd_share "share" = true) (k_share : PySem.W.keepIn K (.ref f_share) = true)
    (a_steps_of : PySem.W.nsIn K mainGlobals "steps_of" = some (some (.ref f_steps_of))) (l_steps_of : K.lookup f_steps_of = some ⟨oc_steps_of, od_steps_of, .func (PySem.W.fnOf "steps_of" "steps_of" (defArgs s_steps_of) (defBody s_steps_of) (defScope s_steps_of) .none kV_steps_of dc_steps_of pm_steps_of an_steps_of cd_steps_of ct_steps_of), sl_steps_of⟩) (c_steps_of : PySem.W.codeIn K cd_steps_of "steps_of" = true) (k_steps_of : PySem.W.keepIn K (.ref f_steps_of) = true)
    (a_come_of : PySem.W.nsIn K mainGlobals "come_of" = some (some (.ref f_come_of))) (l_come_of : K.lookup f_come_of = some ⟨oc_come_of, od_come_of, .func (PySem.W.fnOf "come_of" "come_of" (defArgs s_come_of) (defBody s_come_of) (defScope s_come_of) .none kV_come_of dc_come_of pm_come_of an_come_of cd_come_of ct_come_of), sl_come_of⟩) (c_come_of : PySem.W.codeIn K cd_come_of "come_of" = true) (k_come_of : PySem.W.keepIn K (.ref f_come_of) = true)
    (a_number_itself : PySem.W.nsIn K mainGlobals "number_itself" = some (some (.ref f_number_itself))) (l_number_itself : K.lookup f_number_itself = some ⟨oc_number_itself, od_number_itself, .func (PySem.W.fnOf "number_itself" "number_itself" (defArgs s_number_itself) (defBody s_number_itself) (defScope s_number_itself) .none kV_number_itself dc_number_itself pm_number_itself an_number_itself cd_number_itself ct_number_itself), sl_number_itself⟩) (c_number_itself : PySem.W.codeIn K cd_number_itself "number_itself" = true) (k_number_itself : PySem.W.keepIn K (.ref f_number_itself) = true)
    (a_worth_by : PySem.W.nsIn K mainGlobals "worth_by" = some (some (.ref f_worth_by))) (l_worth_by : K.lookup f_worth_by = some ⟨oc_worth_by, od_worth_by, .func (PySem.W.fnOf "worth_by" "worth_by" (defArgs s_worth_by) (defBody s_worth_by) (defScope s_worth_by) .none kV_worth_by dc_worth_by pm_worth_by an_worth_by cd_worth_by ct_worth_by), sl_worth_by⟩) (c_worth_by : PySem.W.codeIn K cd_worth_by "worth_by" = true) (k_worth_by : PySem.W.keepIn K (.ref f_worth_by) = true)
    (a_in_brackets : PySem.W.nsIn K mainGlobals "in_brackets" = some (some (.ref f_in_brackets))) (l_in_brackets : K.lookup f_in_brackets = some ⟨oc_in_brackets, od_in_brackets, .func (PySem.W.fnOf "in_brackets" "in_brackets" (defArgs s_in_brackets) (defBody s_in_brackets) (defScope s_in_brackets) .none kV_in_brackets dc_in_brackets pm_in_brackets an_in_brackets cd_in_brackets ct_in_brackets), sl_in_brackets⟩) (c_in_brackets : PySem.W.codeIn K cd_in_brackets "in_brackets" = true) (k_in_brackets : PySem.W.keepIn K (.ref f_in_brackets) = true)
    (a_worth_of : PySem.W.nsIn K mainGlobals "worth_of" = some (some (.ref f_worth_of))) (l_worth_of : K.lookup f_worth_of = some ⟨oc_worth_of, od_worth_of, .func (PySem.W.fnOf "worth_of" "worth_of" (defArgs s_worth_of) (defBody s_worth_of) (defScope s_worth_of) .none kV_worth_of dc_worth_of pm_worth_of an_worth_of cd_worth_of ct_worth_of), sl_worth_of⟩) (c_worth_of : PySem.W.codeIn K cd_worth_of "worth_of" = true) (k_worth_of : PySem.W.keepIn K (.ref f_worth_of) = true)
    (a_deeds_of : PySem.W.nsIn K mainGlobals "deeds_of" = some (some (.ref f_deeds_of))) (l_deeds_of : K.lookup f_deeds_of = some ⟨oc_deeds_of, od_deeds_of, .func (PySem.W.fnOf "deeds_of" "deeds_of" (defArgs s_deeds_of) (defBody s_deeds_of) (defScope s_deeds_of) .none kV_deeds_of dc_deeds_of pm_deeds_of an_deeds_of cd_deeds_of ct_deeds_of), sl_deeds_of⟩) (c_deeds_of : PySem.W.codeIn K cd_deeds_of "deeds_of" = true) (k_deeds_of : PySem.W.keepIn K (.ref f_deeds_of) = true)
    (a_numbers_of : PySem.W.nsIn K mainGlobals "numbers_of" = some (some (.ref f_numbers_of))) (l_numbers_of : K.lookup f_numbers_of = some ⟨oc_numbers_of, od_numbers_of, .func (PySem.W.fnOf "numbers_of" "numbers_of" (defArgs s_numbers_of) (defBody s_numbers_of) (defScope s_numbers_of) .none kV_numbers_of dc_numbers_of pm_numbers_of an_numbers_of cd_numbers_of ct_numbers_of), sl_numbers_of⟩) (c_numbers_of : PySem.W.codeIn K cd_numbers_of "numbers_of" = true) (k_numbers_of : PySem.W.keepIn K (.ref f_numbers_of) = true)
    (a_figures_of : PySem.W.nsIn K mainGlobals "figures_of" = some (some (.ref f_figures_of))) (l_figures_of : K.lookup f_figures_of = some ⟨oc_figures_of, od_figures_of, .func (PySem.W.fnOf "figures_of" "figures_of" (defArgs s_figures_of) (defBody s_figures_of) (defScope s_figures_of) .none kV_figures_of dc_figures_of pm_figures_of an_figures_of cd_figures_of ct_figures_of), sl_figures_of⟩) (c_figures_of : PySem.W.codeIn K cd_figures_of "figures_of" = true) (k_figures_of : PySem.W.keepIn K (.ref f_figures_of) = true)
    (a_number_of : PySem.W.nsIn K mainGlobals "number_of" = some (some (.ref f_number_of))) (l_number_of : K.lookup f_number_of = some ⟨oc_number_of, od_number_of, .func (PySem.W.fnOf "number_of" "number_of" (defArgs s_number_of) (defBody s_number_of) (defScope s_number_of) .none kV_number_of dc_number_of pm_number_of an_number_of cd_number_of ct_number_of), sl_number_of⟩) (c_number_of : PySem.W.codeIn K cd_number_of "number_of" = true) (k_number_of : PySem.W.keepIn K (.ref f_number_of) = true)
    (a_way_shown : PySem.W.nsIn K mainGlobals "way_shown" = some (some (.ref f_way_shown))) (l_way_shown : K.lookup f_way_shown = some ⟨oc_way_shown, od_way_shown, .func (PySem.W.fnOf "way_shown" "way_shown" (defArgs s_way_shown) (defBody s_way_shown) (defScope s_way_shown) .none kV_way_shown dc_way_shown pm_way_shown an_way_shown cd_way_shown ct_way_shown), sl_way_shown⟩) (c_way_shown : PySem.W.codeIn K cd_way_shown "way_shown" = true) (k_way_shown : PySem.W.keepIn K (.ref f_way_shown) = true)
    (a_read_way : PySem.W.nsIn K mainGlobals "read_way" = some (some (.ref f_read_way))) (l_read_way : K.lookup f_read_way = some ⟨oc_read_way, od_read_way, .func (PySem.W.fnOf "read_way" "read_way" (defArgs s_read_way) (defBody s_read_way) (defScope s_read_way) .none kV_read_way dc_read_way pm_read_way an_read_way cd_read_way ct_read_way), sl_read_way⟩) (c_read_way : PySem.W.codeIn K cd_read_way "read_way" = true) (k_read_way : PySem.W.keepIn K (.ref f_read_way) = true)
    (a_is_figures : PySem.W.nsIn K mainGlobals "is_figures" = some (some (.ref f_is_figures))) (l_is_figures : K.lookup f_is_figures = some ⟨oc_is_figures, od_is_figures, .func (PySem.W.fnOf "is_figures" "is_figures" (defArgs s_is_figures) (defBody s_is_figures) (defScope s_is_figures) .none kV_is_figures dc_is_figures pm_is_figures an_is_figures cd_is_figures ct_is_figures), sl_is_figures⟩) (c_is_figures : PySem.W.codeIn K cd_is_figures "is_figures" = true) (k_is_figures : PySem.W.keepIn K (.ref f_is_figures) = true)
    (a_figures_end : PySem.W.nsIn K mainGlobals "figures_end" = some (some (.ref f_figures_end))) (l_figures_end : K.lookup f_figures_end = some ⟨oc_figures_end, od_figures_end, .func (PySem.W.fnOf "figures_end" "figures_end" (defArgs s_figures_end) (defBody s_figures_end) (defScope s_figures_end) .none kV_figures_end dc_figures_end pm_figures_end an_figures_end cd_figures_end ct_figures_end), sl_figures_end⟩) (c_figures_end : PySem.W.codeIn K cd_figures_end "figures_end" = true) (k_figures_end : PySem.W.keepIn K (.ref f_figures_end) = true)
    (a_pieces_of : PySem.W.nsIn K mainGlobals "pieces_of" = some (some (.ref f_pieces_of))) (l_pieces_of : K.lookup f_pieces_of = some ⟨oc_pieces_of, od_pieces_of, .func (PySem.W.fnOf "pieces_of" "pieces_of" (defArgs s_pieces_of) (defBody s_pieces_of) (defScope s_pieces_of) .none kV_pieces_of dc_pieces_of pm_pieces_of an_pieces_of cd_pieces_of ct_pieces_of), sl_pieces_of⟩) (c_pieces_of : PySem.W.codeIn K cd_pieces_of "pieces_of" = true) (k_pieces_of : PySem.W.keepIn K (.ref f_pieces_of) = true)
    (a_piece_at : PySem.W.nsIn K mainGlobals "piece_at" = some (some (.ref f_piece_at))) (l_piece_at : K.lookup f_piece_at = some ⟨oc_piece_at, od_piece_at, .func (PySem.W.fnOf "piece_at" "piece_at" (defArgs s_piece_at) (defBody s_piece_at) (defScope s_piece_at) .none kV_piece_at dc_piece_at pm_piece_at an_piece_at cd_piece_at ct_piece_at), sl_piece_at⟩) (c_piece_at : PySem.W.codeIn K cd_piece_at "piece_at" = true) (k_piece_at : PySem.W.keepIn K (.ref f_piece_at) = true)
    (a_way_closed : PySem.W.nsIn K mainGlobals "way_closed" = some (some (.ref f_way_closed))) (l_way_closed : K.lookup f_way_closed = some ⟨oc_way_closed, od_way_closed, .func (PySem.W.fnOf "way_closed" "way_closed" (defArgs s_way_closed) (defBody s_way_closed) (defScope s_way_closed) .none kV_way_closed dc_way_closed pm_way_closed an_way_closed cd_way_closed ct_way_closed), sl_way_closed⟩) (c_way_closed : PySem.W.codeIn K cd_way_closed "way_closed" = true) (k_way_closed : PySem.W.keepIn K (.ref f_way_closed) = true)
    (a_is_word : PySem.W.nsIn K mainGlobals "is_word" = some (some (.ref f_is_word))) (l_is_word : K.lookup f_is_word = some ⟨oc_is_word, od_is_word, .func (PySem.W.fnOf "is_word" "is_word" (defArgs s_is_word) (defBody s_is_word) (defScope s_is_word) .none kV_is_word dc_is_word pm_is_word an_is_word cd_is_word ct_is_word), sl_is_word⟩) (c_is_word : PySem.W.codeIn K cd_is_word "is_word" = true) (k_is_word : PySem.W.keepIn K (.ref f_is_word) = true)
    (a_is_way : PySem.W.nsIn K mainGlobals "is_way" = some (some (.ref f_is_way))) (l_is_way : K.lookup f_is_way = some ⟨oc_is_way, od_is_way, .func (PySem.W.fnOf "is_way" "is_way" (defArgs s_is_way) (defBody s_is_way) (defScope s_is_way) .none kV_is_way dc_is_way pm_is_way an_is_way cd_is_way ct_is_way), sl_is_way⟩) (c_is_way : PySem.W.codeIn K cd_is_way "is_way" = true) (k_is_way : PySem.W.keepIn K (.ref f_is_way) = true)
    (a_law_deck : PySem.W.nsIn K mainGlobals "_law_deck" = some (some (.ref f_law_deck))) (l_law_deck : K.lookup f_law_deck = some ⟨oc_law_deck, od_law_deck, .func (PySem.W.fnOf "_law_deck" "_law_deck" (defArgs s_law_deck) (defBody s_law_deck) (defScope s_law_deck) .none kV_law_deck dc_law_deck pm_law_deck an_law_deck cd_law_deck ct_law_deck), sl_law_deck⟩) (c_law_deck : PySem.W.codeIn K cd_law_deck "_law_deck" = true) (k_law_deck : PySem.W.keepIn K (.ref f_law_deck) = true)
    (a_law_take : PySem.W.nsIn K mainGlobals "_law_take" = some (some (.ref f_law_take))) (l_law_take : K.lookup f_law_take = some ⟨oc_law_take, od_law_take, .func (PySem.W.fnOf "_law_take" "_law_take" (defArgs s_law_take) (defBody s_law_take) (defScope s_law_take) .none kV_law_take dc_law_take pm_law_take an_law_take cd_law_take ct_law_take), sl_law_take⟩) (c_law_take : PySem.W.codeIn K cd_law_take "_law_take" = true) (k_law_take : PySem.W.keepIn K (.ref f_law_take) = true)
    (a_law_number : PySem.W.nsIn K mainGlobals "_law_number" = some (some (.ref f_law_number))) (l_law_number : K.lookup f_law_number = some ⟨oc_law_number, od_law_number, .func (PySem.W.fnOf "_law_number" "_law_number" (defArgs s_law_number) (defBody s_law_number) (defScope s_law_number) .none kV_law_number dc_law_number pm_law_number an_law_number cd_law_number ct_law_number), sl_law_number⟩) (c_law_number : PySem.W.codeIn K cd_law_number "_law_number" = true) (k_law_number : PySem.W.keepIn K (.ref f_law_number) = true)
    (a_law_by : PySem.W.nsIn K mainGlobals "_law_by" = some (some (.ref f_law_by))) (l_law_by : K.lookup f_law_by = some ⟨oc_law_by, od_law_by, .func (PySem.W.fnOf "_law_by" "_law_by" (defArgs s_law_by) (defBody s_law_by) (defScope s_law_by) .none kV_law_by dc_law_by pm_law_by an_law_by cd_law_by ct_law_by), sl_law_by⟩) (c_law_by : PySem.W.codeIn K cd_law_by "_law_by" = true) (k_law_by : PySem.W.keepIn K (.ref f_law_by) = true)
    (a_law_worth : PySem.W.nsIn K mainGlobals "_law_worth" = some (some (.ref f_law_worth))) (l_law_worth : K.lookup f_law_worth = some ⟨oc_law_worth, od_law_worth, .func (PySem.W.fnOf "_law_worth" "_law_worth" (defArgs s_law_worth) (defBody s_law_worth) (defScope s_law_worth) .none kV_law_worth dc_law_worth pm_law_worth an_law_worth cd_law_worth ct_law_worth), sl_law_worth⟩) (c_law_worth : PySem.W.codeIn K cd_law_worth "_law_worth" = true) (k_law_worth : PySem.W.keepIn K (.ref f_law_worth) = true)
    (a_law_any_way : PySem.W.nsIn K mainGlobals "_law_any_way" = some (some (.ref f_law_any_way))) (l_law_any_way : K.lookup f_law_any_way = some ⟨oc_law_any_way, od_law_any_way, .func (PySem.W.fnOf "_law_any_way" "_law_any_way" (defArgs s_law_any_way) (defBody s_law_any_way) (defScope s_law_any_way) .none kV_law_any_way dc_law_any_way pm_law_any_way an_law_any_way cd_law_any_way ct_law_any_way), sl_law_any_way⟩) (c_law_any_way : PySem.W.codeIn K cd_law_any_way "_law_any_way" = true) (k_law_any_way : PySem.W.keepIn K (.ref f_law_any_way) = true)
    (a_law_good_way : PySem.W.nsIn K mainGlobals "_law_good_way" = some (some (.ref f_law_good_way))) (l_law_good_way : K.lookup f_law_good_way = some ⟨oc_law_good_way, od_law_good_way, .func (PySem.W.fnOf "_law_good_way" "_law_good_way" (defArgs s_law_good_way) (defBody s_law_good_way) (defScope s_law_good_way) .none kV_law_good_way dc_law_good_way pm_law_good_way an_law_good_way cd_law_good_way ct_law_good_way), sl_law_good_way⟩) (c_law_good_way : PySem.W.codeIn K cd_law_good_way "_law_good_way" = true) (k_law_good_way : PySem.W.keepIn K (.ref f_law_good_way) = true)
    (a_law_size : PySem.W.nsIn K mainGlobals "_law_size" = some (some (.ref f_law_size))) (l_law_size : K.lookup f_law_size = some ⟨oc_law_size, od_law_size, .func (PySem.W.fnOf "_law_size" "_law_size" (defArgs s_law_size) (defBody s_law_size) (defScope s_law_size) .none kV_law_size dc_law_size pm_law_size an_law_size cd_law_size ct_law_size), sl_law_size⟩) (c_law_size : PySem.W.codeIn K cd_law_size "_law_size" = true) (k_law_size : PySem.W.keepIn K (.ref f_law_size) = true)
    (a_law_told : PySem.W.nsIn K mainGlobals "_law_told" = some (some (.ref f_law_told))) (l_law_told : K.lookup f_law_told = some ⟨oc_law_told, od_law_told, .func (PySem.W.fnOf "_law_told" "_law_told" (defArgs s_law_told) (defBody s_law_told) (defScope s_law_told) .none kV_law_told dc_law_told pm_law_told an_law_told cd_law_told ct_law_told), sl_law_told⟩) (c_law_told : PySem.W.codeIn K cd_law_told "_law_told" = true) (k_law_told : PySem.W.keepIn K (.ref f_law_told) = true)
    (a_law_right : PySem.W.nsIn K mainGlobals "_law_right" = some (some (.ref f_law_right))) (l_law_right : K.lookup f_law_right = some ⟨oc_law_right, od_law_right, .func (PySem.W.fnOf "_law_right" "_law_right" (defArgs s_law_right) (defBody s_law_right) (defScope s_law_right) .none kV_law_right dc_law_right pm_law_right an_law_right cd_law_right ct_law_right), sl_law_right⟩) (c_law_right : PySem.W.codeIn K cd_law_right "_law_right" = true) (k_law_right : PySem.W.keepIn K (.ref f_law_right) = true)
    (a_law_told_right : PySem.W.nsIn K mainGlobals "_law_told_right" = some (some (.ref f_law_told_right))) (l_law_told_right : K.lookup f_law_told_right = some ⟨oc_law_told_right, od_law_told_right, .func (PySem.W.fnOf "_law_told_right" "_law_told_right" (defArgs s_law_told_right) (defBody s_law_told_right) (defScope s_law_told_right) .none kV_law_told_right dc_law_told_right pm_law_told_right an_law_told_right cd_law_told_right ct_law_told_right), sl_law_told_right⟩) (c_law_told_right : PySem.W.codeIn K cd_law_told_right "_law_told_right" = true) (k_law_told_right : PySem.W.keepIn K (.ref f_law_told_right) = true)
    (a_law : PySem.W.nsIn K mainGlobals "law" = some (some (.ref f_law))) (l_law : K.lookup f_law = some ⟨oc_law, od_law, .func (PySem.W.fnOf "law" "law" (defArgs s_law) (defBody s_law) (defScope s_law) .none kV_law dc_law pm_law an_law cd_law ct_law), sl_law⟩) (c_law : PySem.W.codeIn K cd_law "law" = true) (k_law : PySem.W.keepIn K (.ref f_law) = true)
    (a_DEEDS : PySem.W.nsIn K mainGlobals "DEEDS" = some (some (.ref d_DEEDS))) (l_DEEDS : K.lookup d_DEEDS = some ⟨.type "dict", none, .dict es_DEEDS n_DEEDS, #[]⟩) (k_DEEDS : PySem.W.KeysLit w.params es_DEEDS.toList)
    (e_DEEDS_plus : PySem.W.nsIn K d_DEEDS "plus" = some (some (.ref f_plus)))
    (e_DEEDS_less : PySem.W.nsIn K d_DEEDS "less" = some (some (.ref f_less)))
    (e_DEEDS_times : PySem.W.nsIn K d_DEEDS "times" = some (some (.ref f_times)))
    (e_DEEDS_share : PySem.W.nsIn K d_DEEDS "share" = some (some (.ref f_share)))
    (a_SIGNS : PySem.W.nsIn K mainGlobals "SIGNS" = some (some (.ref d_SIGNS))) (l_SIGNS : K.lookup d_SIGNS = some ⟨.type "dict", none, .dict es_SIGNS n_SIGNS, #[]⟩) (k_SIGNS : PySem.W.KeysLit w.params es_SIGNS.toList)
    (e_SIGNS_plus : PySem.W.nsIn K d_SIGNS "plus" = some (some (.str " + " t_plus)))
    (e_SIGNS_less : PySem.W.nsIn K d_SIGNS "less" = some (some (.str " - " t_less)))
    (e_SIGNS_times : PySem.W.nsIn K d_SIGNS "times" = some (some (.str " * " t_times)))
    (e_SIGNS_share : PySem.W.nsIn K d_SIGNS "share" = some (some (.str " / " t_share)))
    (p_SIGNS : Paired (fun (kv : Str × V) (e : DictEntry) => (∃ t, e.key = .str kv.1 t) ∧ RelV kv.2 e.val) kvS es_SIGNS.toList)
    (y_SIGNS : (d_SIGNS == sysModules) = false)
    (a_FIGURES : PySem.W.nsIn K mainGlobals "FIGURES" = some (some (.str "0123456789" tF)))
    (a_NoWay : PySem.W.nsIn K mainGlobals "NoWay" = some (some (.ref C_NoWay)))
    (l_NoWay : K.lookup C_NoWay = some (excClassObj nm_NoWay qn_NoWay C_NoWay N_NoWay bs_NoWay bm_NoWay true sn_NoWay sub_NoWay ab_NoWay col_NoWay dd_NoWay k0_NoWay k1_NoWay k2_NoWay k3_NoWay k5_NoWay "ValueError.__new__"))
    (t_NoWay : PySem.W.tailIn K vMro bm_NoWay = true)
    (kp_NoWay : PySem.W.keepIn K (.ref C_NoWay) = true)
    (ga_NoWay : PySem.W.findIn K (.ref C_NoWay) "__getattribute__" = some (some (.builtin "BaseException.__getattribute__")))
    (gh_NoWay : PySem.W.findIn K (.ref C_NoWay) "__getattr__" = some none)
    (gc_NoWay : PySem.W.findIn K (.ref C_NoWay) "__class__" = some (some (.builtin "object.__class__")))
    (sa_NoWay : PySem.W.findIn K (.ref C_NoWay) "__setattr__" = some (some (.builtin "object.__setattr__")))
    (i_NoWay : PySem.W.findIn K (.ref C_NoWay) "__init__" = some (some (.ref f_init)))
    (y_init : PySem.W.typeIn K (.ref f_init) = some (.type "function"))
    (l_init : K.lookup f_init = some ⟨oc_init, od_init, .func (PySem.W.fnOf "__init__" "NoWay.__init__" (defArgs s_init) (defBody s_init) (defScope s_init) .none kV_init dc_init pm_init an_init cd_init ct_init), sl_init⟩)
    (cd_ok_init : PySem.W.codeIn K cd_init "NoWay.__init__" = true)
    (k_init : PySem.W.keepIn K (.ref f_init) = true)
    (w_NoWay : PySem.W.findIn K (.ref C_NoWay) "word" = some none)
    (z_len : PySem.W.nsIn K mainGlobals "len" = some none)
    (z_sum : PySem.W.nsIn K mainGlobals "sum" = some none)
    (z_range : PySem.W.nsIn K mainGlobals "range" = some none)
    (z_isinstance : PySem.W.nsIn K mainGlobals "isinstance" = some none)
    (z_int : PySem.W.nsIn K mainGlobals "int" = some none)
    (z_str : PySem.W.nsIn K mainGlobals "str" = some none)
    (z_bool : PySem.W.nsIn K mainGlobals "bool" = some none)
    (z_tuple : PySem.W.nsIn K mainGlobals "tuple" = some none)
    (z_zip : PySem.W.nsIn K mainGlobals "zip" = some none) :
    ∃ fd : FuncData, (∀ (s : Shared) (v : Value), BindsTo s fd ⟨[v], []⟩ [("script", v)]) ∧ ∀ base : Heap, K.In base → base.Ns mainGlobals mg → FnOk l.prog w K mg base CX0 30 fa fd ["script"] (spLaw K) := by
  have e := hfa.symm.trans (PySem.W.mg_of X G a_law)
  cases e
  have F_plus := fun_mk (st := s_plus) l_plus c_plus k_plus
  have b_plus := F_plus.binds (ps := ["first", "second"]) fun _ _ _ _ _ _ us hl => match us, hl with | [_, _], _ => rfl
  have m_plus := PySem.W.mg_of X G a_plus
  have F_less := fun_mk (st := s_less) l_less c_less k_less
  have b_less := F_less.binds (ps := ["first", "second"]) fun _ _ _ _ _ _ us hl => match us, hl with | [_, _], _ => rfl
  have m_less := PySem.W.mg_of X G a_less
  have F_times := fun_mk (st := s_times) l_times c_times k_times
  have b_times := F_times.binds (ps := ["first", "second"]) fun _ _ _ _ _ _ us hl => match us, hl with | [_, _], _ => rfl
  have m_times := PySem.W.mg_of X G a_times
  have F_share := fun_mk (st := s_share) l_share c_share k_share
  have b_share := F_share.binds (ps := ["first", "second"]) fun _ _ _ _ _ _ us hl => match us, hl with | [_, _], _ => rfl
  have m_share := PySem.W.mg_of X G a_share
  have F_steps_of := fun_mk (st := s_steps_of) l_steps_of c_steps_of k_steps_of
  have b_steps_of := F_steps_of.binds (ps := ["way"]) fun _ _ _ _ _ _ us hl => match us, hl with | [_], _ => rfl
  have m_steps_of := PySem.W.mg_of X G a_steps_of
  have F_come_of := fun_mk (st := s_come_of) l_come_of c_come_of k_come_of
  have b_come_of := F_come_of.binds (ps := ["steps", "of_number", "of_word"]) fun _ _ _ _ _ _ us hl => match us, hl with | [_, _, _], _ => rfl
  have m_come_of := PySem.W.mg_of X G a_come_of
  have F_number_itself := fun_mk (st := s_number_itself) l_number_itself c_number_itself k_number_itself
  have b_number_itself := F_number_itself.binds (ps := ["number"]) fun _ _ _ _ _ _ us hl => match us, hl with | [_], _ => rfl
  have m_number_itself := PySem.W.mg_of X G a_number_itself
  have F_worth_by := fun_mk (st := s_worth_by) l_worth_by c_worth_by k_worth_by
  have b_worth_by := F_worth_by.binds (ps := ["word", "first", "second"]) fun _ _ _ _ _ _ us hl => match us, hl with | [_, _, _], _ => rfl
  have m_worth_by := PySem.W.mg_of X G a_worth_by
  have F_in_brackets := fun_mk (st := s_in_brackets) l_in_brackets c_in_brackets k_in_brackets
  have b_in_brackets := F_in_brackets.binds (ps := ["word", "first", "second"]) fun _ _ _ _ _ _ us hl => match us, hl with | [_, _, _], _ => rfl
  have m_in_brackets := PySem.W.mg_of X G a_in_brackets
  have F_worth_of := fun_mk (st := s_worth_of) l_worth_of c_worth_of k_worth_of
  have b_worth_of := F_worth_of.binds (ps := ["way"]) fun _ _ _ _ _ _ us hl => match us, hl with | [_], _ => rfl
  have m_worth_of := PySem.W.mg_of X G a_worth_of
  have F_deeds_of := fun_mk (st := s_deeds_of) l_deeds_of c_deeds_of k_deeds_of
  have b_deeds_of := F_deeds_of.binds (ps := ["way"]) fun _ _ _ _ _ _ us hl => match us, hl with | [_], _ => rfl
  have m_deeds_of := PySem.W.mg_of X G a_deeds_of
  have F_numbers_of := fun_mk (st := s_numbers_of) l_numbers_of c_numbers_of k_numbers_of
  have b_numbers_of := F_numbers_of.binds (ps := ["way"]) fun _ _ _ _ _ _ us hl => match us, hl with | [_], _ => rfl
  have m_numbers_of := PySem.W.mg_of X G a_numbers_of
  have F_figures_of := fun_mk (st := s_figures_of) l_figures_of c_figures_of k_figures_of
  have b_figures_of := F_figures_of.binds (ps := ["number"]) fun _ _ _ _ _ _ us hl => match us, hl with | [_], _ => rfl
  have m_figures_of := PySem.W.mg_of X G a_figures_of
  have F_number_of := fun_mk (st := s_number_of) l_number_of c_number_of k_number_of
  have b_number_of := F_number_of.binds (ps := ["figures"]) fun _ _ _ _ _ _ us hl => match us, hl with | [_], _ => rfl
  have m_number_of := PySem.W.mg_of X G a_number_of
  have F_way_shown := fun_mk (st := s_way_shown) l_way_shown c_way_shown k_way_shown
  have b_way_shown := F_way_shown.binds (ps := ["way"]) fun _ _ _ _ _ _ us hl => match us, hl with | [_], _ => rfl
  have m_way_shown := PySem.W.mg_of X G a_way_shown
  have F_read_way := fun_mk (st := s_read_way) l_read_way c_read_way k_read_way
  have b_read_way := F_read_way.binds (ps := ["text"]) fun _ _ _ _ _ _ us hl => match us, hl with | [_], _ => rfl
  have m_read_way := PySem.W.mg_of X G a_read_way
  have F_is_figures := fun_mk (st := s_is_figures) l_is_figures c_is_figures k_is_figures
  have b_is_figures := F_is_figures.binds (ps := ["text"]) fun _ _ _ _ _ _ us hl => match us, hl with | [_], _ => rfl
  have m_is_figures := PySem.W.mg_of X G a_is_figures
  have F_figures_end := fun_mk (st := s_figures_end) l_figures_end c_figures_end k_figures_end
  have b_figures_end := F_figures_end.binds (ps := ["text", "at"]) fun _ _ _ _ _ _ us hl => match us, hl with | [_, _], _ => rfl
  have m_figures_end := PySem.W.mg_of X G a_figures_end
  have F_pieces_of := fun_mk (st := s_pieces_of) l_pieces_of c_pieces_of k_pieces_of
  have b_pieces_of := F_pieces_of.binds (ps := ["text"]) fun _ _ _ _ _ _ us hl => match us, hl with | [_], _ => rfl
  have m_pieces_of := PySem.W.mg_of X G a_pieces_of
  have F_piece_at := fun_mk (st := s_piece_at) l_piece_at c_piece_at k_piece_at
  have b_piece_at := F_piece_at.binds (ps := ["text", "at"]) fun _ _ _ _ _ _ us hl => match us, hl with | [_, _], _ => rfl
  have m_piece_at := PySem.W.mg_of X G a_piece_at
  have F_way_closed := fun_mk (st := s_way_closed) l_way_closed c_way_closed k_way_closed
  have b_way_closed := F_way_closed.binds (ps := ["held"]) fun _ _ _ _ _ _ us hl => match us, hl with | [_], _ => rfl
  have m_way_closed := PySem.W.mg_of X G a_way_closed
  have F_is_word := fun_mk (st := s_is_word) l_is_word c_is_word k_is_word
  have b_is_word := F_is_word.binds (ps := ["piece"]) fun _ _ _ _ _ _ us hl => match us, hl with | [_], _ => rfl
  have m_is_word := PySem.W.mg_of X G a_is_word
  have F_is_way := fun_mk (st := s_is_way) l_is_way c_is_way k_is_way
  have b_is_way := F_is_way.binds (ps := ["piece"]) fun _ _ _ _ _ _ us hl => match us, hl with | [_], _ => rfl
  have m_is_way := PySem.W.mg_of X G a_is_way
  have F_law_deck := fun_mk (st := s_law_deck) l_law_deck c_law_deck k_law_deck
  have b_law_deck := F_law_deck.binds (ps := ["script"]) fun _ _ _ _ _ _ us hl => match us, hl with | [_], _ => rfl
  have m_law_deck := PySem.W.mg_of X G a_law_deck
  have F_law_take := fun_mk (st := s_law_take) l_law_take c_law_take k_law_take
  have b_law_take := F_law_take.binds (ps := ["deck", "many"]) fun _ _ _ _ _ _ us hl => match us, hl with | [_, _], _ => rfl
  have m_law_take := PySem.W.mg_of X G a_law_take
  have F_law_number := fun_mk (st := s_law_number) l_law_number c_law_number k_law_number
  have b_law_number := F_law_number.binds (ps := ["deck"]) fun _ _ _ _ _ _ us hl => match us, hl with | [_], _ => rfl
  have m_law_number := PySem.W.mg_of X G a_law_number
  have F_law_by := fun_mk (st := s_law_by) l_law_by c_law_by k_law_by
  have b_law_by := F_law_by.binds (ps := ["word", "one", "other"]) fun _ _ _ _ _ _ us hl => match us, hl with | [_, _, _], _ => rfl
  have m_law_by := PySem.W.mg_of X G a_law_by
  have F_law_worth := fun_mk (st := s_law_worth) l_law_worth c_law_worth k_law_worth
  have b_law_worth := F_law_worth.binds (ps := ["way"]) fun _ _ _ _ _ _ us hl => match us, hl with | [_], _ => rfl
  have m_law_worth := PySem.W.mg_of X G a_law_worth
  have F_law_any_way := fun_mk (st := s_law_any_way) l_law_any_way c_law_any_way k_law_any_way
  have b_law_any_way := F_law_any_way.binds (ps := ["deck", "many"]) fun _ _ _ _ _ _ us hl => match us, hl with | [_, _], _ => rfl
  have m_law_any_way := PySem.W.mg_of X G a_law_any_way
  have F_law_good_way := fun_mk (st := s_law_good_way) l_law_good_way c_law_good_way k_law_good_way
  have b_law_good_way := F_law_good_way.binds (ps := ["deck", "many"]) fun _ _ _ _ _ _ us hl => match us, hl with | [_, _], _ => rfl
  have m_law_good_way := PySem.W.mg_of X G a_law_good_way
  have F_law_size := fun_mk (st := s_law_size) l_law_size c_law_size k_law_size
  have b_law_size := F_law_size.binds (ps := ["deck"]) fun _ _ _ _ _ _ us hl => match us, hl with | [_], _ => rfl
  have m_law_size := PySem.W.mg_of X G a_law_size
  have F_law_told := fun_mk (st := s_law_told) l_law_told c_law_told k_law_told
  have b_law_told := F_law_told.binds (ps := ["way"]) fun _ _ _ _ _ _ us hl => match us, hl with | [_], _ => rfl
  have m_law_told := PySem.W.mg_of X G a_law_told
  have F_law_right := fun_mk (st := s_law_right) l_law_right c_law_right k_law_right
  have b_law_right := F_law_right.binds (ps := ["one", "other"]) fun _ _ _ _ _ _ us hl => match us, hl with | [_, _], _ => rfl
  have m_law_right := PySem.W.mg_of X G a_law_right
  have F_law_told_right := fun_mk (st := s_law_told_right) l_law_told_right c_law_told_right k_law_told_right
  have b_law_told_right := F_law_told_right.binds (ps := ["way"]) fun _ _ _ _ _ _ us hl => match us, hl with | [_], _ => rfl
  have m_law_told_right := PySem.W.mg_of X G a_law_told_right
  have F_law := fun_mk (st := s_law) l_law c_law k_law
  have b_law := F_law.binds (ps := ["script"]) fun _ _ _ _ _ _ us hl => match us, hl with | [_], _ => rfl
  have m_law := PySem.W.mg_of X G a_law
  have B : Blt mg := ⟨PySem.W.mg_none_of X G z_len, PySem.W.mg_none_of X G z_sum, PySem.W.mg_none_of X G z_range, PySem.W.mg_none_of X G z_isinstance, PySem.W.mg_none_of X G z_int, PySem.W.mg_none_of X G z_str, PySem.W.mg_none_of X G z_bool, PySem.W.mg_none_of X G z_tuple, PySem.W.mg_none_of X G z_zip⟩
  refine ⟨PySem.W.fnOf "law" "law" (defArgs s_law) (defBody s_law) (defScope s_law) .none kV_law dc_law pm_law an_law cd_law ct_law, fun s v => .of_eq rfl, fun base _ _ => ?_⟩
  have c_NoWay : XC K C_NoWay bm_NoWay := ⟨⟨_, _, _, _, _, _, _, _, _, _, _, _, _, _, l_NoWay⟩, t_NoWay, kp_NoWay, ga_NoWay, gh_NoWay, gc_NoWay, sa_NoWay⟩
  have F_init := fun_mk (st := s_init) l_init cd_ok_init k_init
  have b_init := F_init.binds (ps := ["self", "word"]) fun _ _ _ _ _ _ us hl => match us, hl with | [_, _], _ => rfl
  have R : Refs l.prog w K mg base C_NoWay bm_NoWay := ⟨c_NoWay, PySem.W.mg_of X G a_NoWay, ⟨f_init, _, _, i_NoWay, y_init, ok_init F_init c_NoWay w_NoWay, b_init⟩, w_NoWay⟩
  have Gtake := mkDef (ok_law_take (P := l.prog) (w := w) (base := base) F_law_take B) b_law_take m_law_take k_law_take
  have Gnumber := mkDef (ok_law_number F_law_number B Gtake) b_law_number m_law_number k_law_number
  have Gsize := mkDef (ok_law_size F_law_size B Gtake) b_law_size m_law_size k_law_size
  have Gdeck := mkDef (ok_law_deck (P := l.prog) (w := w) (base := base) F_law_deck B) b_law_deck m_law_deck k_law_deck
  have Gby := mkDef (ok_law_by (P := l.prog) (w := w) (base := base) F_law_by B) b_law_by m_law_by k_law_by
  have Gworth := mkDef (ok_law_worth F_law_worth b_law_worth m_law_worth B Gby 10) b_law_worth m_law_worth k_law_worth
  have Ggood := mkDef (ok_law_good F_law_good_way b_law_good_way m_law_good_way B Gtake Gnumber Gby Gworth 8) b_law_good_way m_law_good_way k_law_good_way
  have Gany := mkDef (ok_law_any F_law_any_way b_law_any_way m_law_any_way B Gtake Gnumber 8) b_law_any_way m_law_any_way k_law_any_way
  have mS := PySem.W.mg_of X G a_SIGNS
  have mF := PySem.W.mg_of X G a_FIGURES
  have TD : TopDict w K d_SIGNS := ⟨es_SIGNS, n_SIGNS, l_SIGNS, k_SIGNS⟩
  have TS : TopItems w K d_SIGNS kvS := ⟨es_SIGNS, n_SIGNS, l_SIGNS, k_SIGNS, p_SIGNS, by decide +kernel, y_SIGNS⟩
  have hS : ∀ wd, okWord wd → ∃ t, PySem.W.nsIn K d_SIGNS wd = some (some (.str (mkS (sgn wd)) t)) := fun wd h => by
    rcases h with rfl | rfl | rfl | rfl
    · exact ⟨t_plus, by rw [e_SIGNS_plus, show mkS (sgn "plus") = " + " by decide +kernel]⟩
    · exact ⟨t_less, by rw [e_SIGNS_less, show mkS (sgn "less") = " - " by decide +kernel]⟩
    · exact ⟨t_times, by rw [e_SIGNS_times, show mkS (sgn "times") = " * " by decide +kernel]⟩
    · exact ⟨t_share, by rw [e_SIGNS_share, show mkS (sgn "share") = " / " by decide +kernel]⟩
  have Gsteps := mkDef (ok_steps_of (P := l.prog) (w := w) (base := base) F_steps_of B) b_steps_of m_steps_of k_steps_of
  have Gfig := mkDef (ok_figures_of (P := l.prog) (w := w) (base := base) F_figures_of B) b_figures_of m_figures_of k_figures_of
  have Gnum := mkDef (ok_number_of (P := l.prog) (w := w) (base := base) F_number_of B) b_number_of m_number_of k_number_of
  have Gend := mkDef (ok_figures_end (P := l.prog) (w := w) (base := base) F_figures_end B mF) b_figures_end m_figures_end k_figures_end
  have Gisf := mkDef (ok_is_figures F_is_figures B Gend) b_is_figures m_is_figures k_is_figures
  have Gword := mkDef (ok_is_word (P := l.prog) (w := w) (base := base) F_is_word B) b_is_word m_is_word k_is_word
  have Gway := mkDef (ok_is_way (P := l.prog) (w := w) (base := base) F_is_way B) b_is_way m_is_way k_is_way
  have Gpiece := mkDef (ok_piece_at F_piece_at B mF mS TS Gnum Gend) b_piece_at m_piece_at k_piece_at
  have Gpieces := mkDef (ok_pieces_of F_pieces_of B Gpiece) b_pieces_of m_pieces_of k_pieces_of
  have Gclosed := mkDef (ok_way_closed F_way_closed B Gword Gway) b_way_closed m_way_closed k_way_closed
  have CF : Callee l.prog w K mg base CX0 1 f_figures_of spFigures := ⟨⟨_, _, ok_figures_of F_figures_of B, b_figures_of⟩, k_figures_of⟩
  have CB : Callee l.prog w K mg base CX0 1 f_in_brackets spBrk := ⟨⟨_, _, ok_brk F_in_brackets B mS TD hS, b_in_brackets⟩, k_in_brackets⟩
  have GcomeT := mkDef (ok_comeT F_come_of B CF CB) b_come_of m_come_of k_come_of
  have Gshown := mkDef (ok_way_shown F_way_shown B m_figures_of m_in_brackets Gsteps GcomeT) b_way_shown m_way_shown k_way_shown
  have Gread := mkDef (ok_read_way F_read_way B Gisf Gnum Gpieces Gclosed) b_read_way m_read_way k_read_way
  have De : DeedsX l.prog w K mg base C_NoWay d_DEEDS (famOf f_plus f_less f_times f_share) := by
    refine ⟨⟨_, _, l_DEEDS, k_DEEDS⟩, PySem.W.mg_of X G a_DEEDS, fun wd hw => ?_, fun wd hw => ?_⟩
    · rcases hw with rfl | rfl | rfl | rfl
      · exact e_DEEDS_plus
      · exact e_DEEDS_less
      · exact e_DEEDS_times
      · exact e_DEEDS_share
    · rcases hw with rfl | rfl | rfl | rfl
      · exact ⟨⟨_, _, okX_plus F_plus, b_plus⟩, k_plus⟩
      · exact ⟨⟨_, _, okX_less F_less R, b_less⟩, k_less⟩
      · exact ⟨⟨_, _, okX_times F_times, b_times⟩, k_times⟩
      · exact ⟨⟨_, _, okX_share F_share R, b_share⟩, k_share⟩
  have CN : Callee l.prog w K mg base (CXF l.prog w) 3 f_number_itself spIdX := ⟨⟨_, _, okX_id F_number_itself, b_number_itself⟩, k_number_itself⟩
  have CW : Callee l.prog w K mg base (CXF l.prog w) 5 f_worth_by (spWBX C_NoWay) := ⟨⟨_, _, okX_wb F_worth_by B De, b_worth_by⟩, k_worth_by⟩
  have GcomeX := mkDef (okX_come F_come_of B CN CW) b_come_of m_come_of k_come_of
  have wx := okX_worth_of F_worth_of B m_number_itself m_worth_by Gsteps GcomeX
  have Gworthof := mkDef wx b_worth_of m_worth_of k_worth_of
  have Gworthof0 := mkDef (ok_worth_hush wx) b_worth_of m_worth_of k_worth_of
  have Gnumbers := mkDef (ok_numbers_of F_numbers_of B Gsteps) b_numbers_of m_numbers_of k_numbers_of
  have Gdeeds := mkDef (ok_deeds_of F_deeds_of B Gsteps) b_deeds_of m_deeds_of k_deeds_of
  have Gtold := mkDef (ok_law_told F_law_told R Gworthof) b_law_told m_law_told k_law_told
  have Gright := mkDef (ok_law_right F_law_right B Gshown Gread Gnumbers Gdeeds Gtold Gby) b_law_right m_law_right k_law_right
  have Gtr := mkDef (ok_told_right F_law_told_right B Gshown Gread Gnumbers Gdeeds Gworthof0) b_law_told_right m_law_told_right k_law_told_right
  exact ok_law F_law B Gdeck Gsize Gtake Gany Ggood Gright Gtr Gworthof0
theorem walk {l : PySem.W.OpenLaw} {q : Program} {loose : List Str} {XP : (Str → Option Value) → Heap → Prop} {YP : World → Heap → Prop} {d : DefRec} {K : Params → PySem.W.Frag} (hn : l.most = some 63) (hdf : d.params.defaults = [])
    (hY : ∀ (w : World) (h : Heap), YP w h → (K w.params).In h)
    (F : ∀ (w : World) (mg : Str → Option Value) (fa : Addr) (h : Heap), (K w.params).In h → h.Ns mainGlobals mg → mg d.name = some (.ref fa) →
      ∃ fd : FuncData, (∀ (s : Shared) (u : Value), BindsTo s fd ⟨[u], []⟩ [("script", u)]) ∧ ∀ base : Heap, (K w.params).In base → base.Ns mainGlobals mg → FnOk l.prog w (K w.params) mg base CX0 30 fa fd ["script"] (spLaw (K w.params))) :
    PySem.W.WalkO q loose XP YP l.row.toRowW d [] (fun f vs => PySem.call f vs) :=
  L2.walk_of (n := 63) (k := 30) (x := "script") (CX := fun _ => CX0) (sp := fun w => spLaw (K w.params)) hn (by decide) hdf ⟨rfl, by decide, by decide⟩ hY F (fun _ _ a ns hl _ hS => ⟨a, ns, rfl, hS, hl, fun _ => rfl⟩) fun _ _ _ _ _ z => z
end Law
open PySem PySem.W PyProof.Rows
set_option maxRecDepth 100000 in
set_option maxHeartbeats 0 in
theorem PySem.Challenge.cw_ledtowish_k06_whole_ways_together_holds : PySem.Challenge.rw_ledtowish_k06_whole_ways_together.Holds := by
  w_on; o_law; k_head; (case hw => w_witness2)
  k_fill
  refine Law.walk (l := PySem.Challenge.rw_ledtowish_k06_whole_ways_together) rfl rfl (fun w h Y => PySem.W.kIn_of Y) ?F
  case F =>
    intro w mg fa h KX G hmg
    refine' Law.all_mk KX G hmg ?a_plus ?l_plus ?c_plus ?k_plus ?a_less ?l_less ?c_less ?k_less ?a_times ?l_times ?c_times ?k_times ?a_share ?l_share ?c_share ?k_share ?a_steps_of ?l_steps_of ?c_steps_of ?k_steps_of ?a_come_of ?l_come_of ?c_come_of ?k_come_of ?a_number_itself ?l_number_itself ?c_number_itself ?k_number_itself ?a_worth_by ?l_worth_by ?c_worth_by ?k_worth_by ?a_in_brackets ?l_in_brackets ?c_in_brackets ?k_in_brackets ?a_worth_of ?l_worth_of ?c_worth_of ?k_worth_of ?a_deeds_of ?l_deeds_of ?c_deeds_of ?k_deeds_of ?a_numbers_of ?l_numbers_of ?c_numbers_of ?k_numbers_of ?a_figures_of ?l_figures_of ?c_figures_of ?k_figures_of ?a_number_of ?l_number_of ?c_number_of ?k_number_of ?a_way_shown ?l_way_shown ?c_way_shown ?k_way_shown ?a_read_way ?l_read_way ?c_read_way ?k_read_way ?a_is_figures ?l_is_figures ?c_is_figures ?k_is_figures ?a_figures_end ?l_figures_end ?c_figures_end ?k_figures_end ?a_pieces_of ?l_pieces_of ?c_pieces_of ?k_pieces_of ?a_piece_at ?l_piece_at ?c_piece_at ?k_piece_at ?a_way_closed ?l_way_closed ?c_way_closed ?k_way_closed ?a_is_word ?l_is_word ?c_is_word ?k_is_word ?a_is_way ?l_is_way ?c_is_way ?k_is_way ?a_law_deck ?l_law_deck ?c_law_deck ?k_law_deck ?a_law_take ?l_law_take ?c_law_take ?k_law_take ?a_law_number ?l_law_number ?c_law_number ?k_law_number ?a_law_by ?l_law_by ?c_law_by ?k_law_by ?a_law_worth ?l_law_worth ?c_law_worth ?k_law_worth ?a_law_any_way ?l_law_any_way ?c_law_any_way ?k_law_any_way ?a_law_good_way ?l_law_good_way ?c_law_good_way ?k_law_good_way ?a_law_size ?l_law_size ?c_law_size ?k_law_size ?a_law_told ?l_law_told ?c_law_told ?k_law_told ?a_law_right ?l_law_right ?c_law_right ?k_law_right ?a_law_told_right ?l_law_told_right ?c_law_told_right ?k_law_told_right ?a_law ?l_law ?c_law ?k_law ?a_DEEDS ?l_DEEDS ?k_DEEDS ?e_DEEDS_plus ?e_DEEDS_less ?e_DEEDS_times ?e_DEEDS_share ?a_SIGNS ?l_SIGNS ?k_SIGNS ?e_SIGNS_plus ?e_SIGNS_less ?e_SIGNS_times ?e_SIGNS_share ?p_SIGNS ?y_SIGNS ?a_FIGURES ?a_NoWay ?l_NoWay ?t_NoWay ?kp_NoWay ?ga_NoWay ?gh_NoWay ?gc_NoWay ?sa_NoWay ?i_NoWay ?y_init ?l_init ?cd_ok_init ?k_init ?w_NoWay ?z_len ?z_sum ?z_range ?z_isinstance ?z_int ?z_str ?z_bool ?z_tuple ?z_zip
    (case a_plus => k_is)
    (case l_plus => k_is)
    (case c_plus => k_is)
    (case k_plus => k_is)
    (case a_less => k_is)
    (case l_less => k_is)
    (case c_less => k_is)
    (case k_less => k_is)
    (case a_times => k_is)
    (case l_times => k_is)
    (case c_times => k_is)
    (case k_times => k_is)
    (case a_share => k_is)
    (case l_share => k_is)
    (case c_share => k_is)
    (case k_share => k_is)
    (case a_steps_of => k_is)
    (case l_steps_of => k_is)
    (case c_steps_of => k_is)
    (case k_steps_of => k_is)
    (case a_come_of => k_is)
    (case l_come_of => k_is)
    (case c_come_of => k_is)
    (case k_come_of => k_is)
    (case a_number_itself => k_is)
    (case l_number_itself => k_is)
    (case c_number_itself => k_is)
    (case k_number_itself => k_is)
    (case a_worth_by => k_is)
    (case l_worth_by => k_is)
    (case c_worth_by => k_is)
    (case k_worth_by => k_is)
    (case a_in_brackets => k_is)
    (case l_in_brackets => k_is)
    (case c_in_brackets => k_is)
    (case k_in_brackets => k_is)
    (case a_worth_of => k_is)
    (case l_worth_of => k_is)
    (case c_worth_of => k_is)
    (case k_worth_of => k_is)
    (case a_deeds_of => k_is)
    (case l_deeds_of => k_is)
    (case c_deeds_of => k_is)
    (case k_deeds_of => k_is)
    (case a_numbers_of => k_is)
    (case l_numbers_of => k_is)
    (case c_numbers_of => k_is)
    (case k_numbers_of => k_is)
    (case a_figures_of => k_is)
    (case l_figures_of => k_is)
    (case c_figures_of => k_is)
    (case k_figures_of => k_is)
    (case a_number_of => k_is)
    (case l_number_of => k_is)
    (case c_number_of => k_is)
    (case k_number_of => k_is)
    (case a_way_shown => k_is)
    (case l_way_shown => k_is)
    (case c_way_shown => k_is)
    (case k_way_shown => k_is)
    (case a_read_way => k_is)
    (case l_read_way => k_is)
    (case c_read_way => k_is)
    (case k_read_way => k_is)
    (case a_is_figures => k_is)
    (case l_is_figures => k_is)
    (case c_is_figures => k_is)
    (case k_is_figures => k_is)
    (case a_figures_end => k_is)
    (case l_figures_end => k_is)
    (case c_figures_end => k_is)
    (case k_figures_end => k_is)
    (case a_pieces_of => k_is)
    (case l_pieces_of => k_is)
    (case c_pieces_of => k_is)
    (case k_pieces_of => k_is)
    (case a_piece_at => k_is)
    (case l_piece_at => k_is)
    (case c_piece_at => k_is)
    (case k_piece_at => k_is)
    (case a_way_closed => k_is)
    (case l_way_closed => k_is)
    (case c_way_closed => k_is)
    (case k_way_closed => k_is)
    (case a_is_word => k_is)
    (case l_is_word => k_is)
    (case c_is_word => k_is)
    (case k_is_word => k_is)
    (case a_is_way => k_is)
    (case l_is_way => k_is)
    (case c_is_way => k_is)
    (case k_is_way => k_is)
    (case a_law_deck => k_is)
    (case l_law_deck => k_is)
    (case c_law_deck => k_is)
    (case k_law_deck => k_is)
    (case a_law_take => k_is)
    (case l_law_take => k_is)
    (case c_law_take => k_is)
    (case k_law_take => k_is)
    (case a_law_number => k_is)
    (case l_law_number => k_is)
    (case c_law_number => k_is)
    (case k_law_number => k_is)
    (case a_law_by => k_is)
    (case l_law_by => k_is)
    (case c_law_by => k_is)
    (case k_law_by => k_is)
    (case a_law_worth => k_is)
    (case l_law_worth => k_is)
    (case c_law_worth => k_is)
    (case k_law_worth => k_is)
    (case a_law_any_way => k_is)
    (case l_law_any_way => k_is)
    (case c_law_any_way => k_is)
    (case k_law_any_way => k_is)
    (case a_law_good_way => k_is)
    (case l_law_good_way => k_is)
    (case c_law_good_way => k_is)
    (case k_law_good_way => k_is)
    (case a_law_size => k_is)
    (case l_law_size => k_is)
    (case c_law_size => k_is)
    (case k_law_size => k_is)
    (case a_law_told => k_is)
    (case l_law_told => k_is)
    (case c_law_told => k_is)
    (case k_law_told => k_is)
    (case a_law_right => k_is)
    (case l_law_right => k_is)
    (case c_law_right => k_is)
    (case k_law_right => k_is)
    (case a_law_told_right => k_is)
    (case l_law_told_right => k_is)
    (case c_law_told_right => k_is)
    (case k_law_told_right => k_is)
    (case a_law => k_is)
    (case l_law => k_is)
    (case c_law => k_is)
    (case k_law => k_is)
    (case a_DEEDS => k_is)
    (case l_DEEDS => k_is)
    (case k_DEEDS => k_keys)
    (case e_DEEDS_plus => k_is)
    (case e_DEEDS_less => k_is)
    (case e_DEEDS_times => k_is)
    (case e_DEEDS_share => k_is)
    (case a_SIGNS => k_is)
    (case l_SIGNS => k_is)
    (case k_SIGNS => k_keys)
    (case e_SIGNS_plus => k_is)
    (case e_SIGNS_less => k_is)
    (case e_SIGNS_times => k_is)
    (case e_SIGNS_share => k_is)
    (case p_SIGNS => exact .cons ⟨⟨_, rfl⟩, ⟨_, rfl⟩⟩ (.cons ⟨⟨_, rfl⟩, ⟨_, rfl⟩⟩ (.cons ⟨⟨_, rfl⟩, ⟨_, rfl⟩⟩ (.cons ⟨⟨_, rfl⟩, ⟨_, rfl⟩⟩ .nil))))
    (case y_SIGNS => rfl)
    (case a_FIGURES => k_is)
    (case a_NoWay => k_is)
    (case l_NoWay => k_is)
    (case t_NoWay => kernel_rfl)
    (case kp_NoWay => k_is)
    (case ga_NoWay => k_is)
    (case gh_NoWay => k_is)
    (case gc_NoWay => k_is)
    (case sa_NoWay => k_is)
    (case i_NoWay => k_is)
    (case y_init => k_is)
    (case l_init => k_is)
    (case cd_ok_init => k_is)
    (case k_init => k_is)
    (case w_NoWay => k_is)
    (case z_len => k_is)
    (case z_sum => k_is)
    (case z_range => k_is)
    (case z_isinstance => k_is)
    (case z_int => k_is)
    (case z_str => k_is)
    (case z_bool => k_is)
    (case z_tuple => k_is)
    (case z_zip => k_is)
#print axioms PySem.Challenge.cw_ledtowish_k06_whole_ways_together_holds
