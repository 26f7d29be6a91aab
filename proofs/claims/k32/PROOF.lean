import PyProof.Rows.All
import Wide.All
import OpenK.AllK
import Wide.FinOn
import Lean
import PyProof.EqAt
import PyProof.EqKinds
import PyProof.TupleCall
import PyProof.NeKinds
import PyProof.ZipIter
import KE.KIntText
import PyProof.StrLawsIn
import PyProof.DictItems
import PyProof.NsDelKeeps
import PyProof.StrWalks
import PyProof.StrCalls6
import PyProof.MeetsStr3
import PyProof.Draws
import PyProof.EnumStmt
import PyProof.Rows.SortShellK
import PyProof.Rows.CallKwBuiltin
import PyProof.Rows.TupIn
import PyProof.DictIter
import PyProof.WalksMore
import PySem.Challenge.RW_ledtowish_k32_whole_long_rows_of_sides
set_option Elab.async false
set_option linter.all false
set_option maxRecDepth 100000
/-! THE HAND LAYER, for ints, bools, texts, own classes, LISTS and tuples (index, slices, in, append, pop ..), calls, loops. Paste it whole ahead of your own text; what your proof does not reach may be deleted. -/
namespace L2
open PySem PySem.Spec PyProof.Rows

/-- a key: an int or a str -/
abbrev Key := Sum Int Str
def keyIs : Key → Value → Bool
  | .inl k, v => Value.isInt k v
  | .inr x, v => Value.isStrOf x v
def keyH (w : World) : Key → Int
  | .inl k => hashInt k
  | .inr x => hashStr w x
theorem keyIs_shape : ∀ {k : Key} {v : Value}, keyIs k v = true → (∃ i t, k = Sum.inl i ∧ v = Value.int i t) ∨ (∃ x t, k = Sum.inr x ∧ v = Value.str x t)
  | .inl i, v, h => by
    obtain ⟨t, e⟩ := Value.isInt_shape (k := i) (v := v) h
    exact .inl ⟨i, t, rfl, e⟩
  | .inr x, v, h => by
    obtain ⟨t, e⟩ := Value.isStrOf_shape (x := x) (v := v) h
    exact .inr ⟨x, t, rfl, e⟩
theorem keyIs_int (i : Int) (t : Tok) : keyIs (.inl i) (.int i t) = true := by simp [keyIs, Value.isInt]
theorem keyIs_str (x : Str) (t : Tok) : keyIs (.inr x) (.str x t) = true := by simp [keyIs, Value.isStrOf]
theorem key_ll (a b : Int) : decide ((Sum.inl a : Key) = Sum.inl b) = (a == b) := by
  by_cases e : a = b
  · subst e; simp
  · have h : ¬ (Sum.inl a : Key) = Sum.inl b := fun q => e (Sum.inl.inj q)
    rw [decide_eq_false h]
    exact (beq_eq_false_iff_ne.mpr e).symm
theorem key_rr (a b : Str) : decide ((Sum.inr a : Key) = Sum.inr b) = decide (a = b) := by
  by_cases e : a = b
  · subst e; simp
  · have h : ¬ (Sum.inr a : Key) = Sum.inr b := fun q => e (Sum.inr.inj q)
    rw [decide_eq_false h, decide_eq_false e]
theorem key_lr (a : Int) (b : Str) : decide ((Sum.inl a : Key) = Sum.inr b) = false := decide_eq_false (fun q => nomatch q)
theorem key_rl (a : Str) (b : Int) : decide ((Sum.inr a : Key) = Sum.inl b) = false := decide_eq_false (fun q => nomatch q)

def mixKind (prog : Program) (w : World) : PySem.KeyKind prog w Key where
  is := keyIs
  hash := keyH w
  inj := fun v a b ha hb => by
    rcases keyIs_shape ha with ⟨i, t, rfl, rfl⟩ | ⟨x, t, rfl, rfl⟩
    · rcases keyIs_shape hb with ⟨j, u, rfl, e⟩ | ⟨y, u, rfl, e⟩
      · injection e with e1 _; rw [e1]
      · exact nomatch e
    · rcases keyIs_shape hb with ⟨j, u, rfl, e⟩ | ⟨y, u, rfl, e⟩
      · exact nomatch e
      · injection e with e1 _; rw [e1]
  byValue := fun k v h => by
    rcases keyIs_shape h with ⟨i, t, rfl, rfl⟩ | ⟨x, t, rfl, rfl⟩ <;> rfl
  pyHash := fun hv h => by
    rcases keyIs_shape hv with ⟨i, t, rfl, rfl⟩ | ⟨x, t, rfl, rfl⟩
    · exact wpAny_pyHash_int h
    · exact wpAny_pyHash_str h
  eqBool := fun hu hv h => by
    rcases keyIs_shape hu with ⟨i, t, rfl, rfl⟩ | ⟨x, t, rfl, rfl⟩
    · rcases keyIs_shape hv with ⟨j, u, rfl, rfl⟩ | ⟨y, u, rfl, rfl⟩
      · rw [key_ll] at h; exact wpAny_eqBool_int h
      · rw [key_lr] at h; exact SeqAt.EqAt.int_str i t y u _ _ _ _ h
    · rcases keyIs_shape hv with ⟨j, u, rfl, rfl⟩ | ⟨y, u, rfl, rfl⟩
      · rw [key_rl] at h; exact SeqAt.EqAt.str_int x t j u _ _ _ _ h
      · rw [key_rr] at h; exact wpAny_eqBool_str h
  «strs» := fun k x t v h => by
    rcases keyIs_shape h with ⟨i, u, rfl, e⟩ | ⟨y, u, rfl, e⟩
    · exact nomatch e
    · injection e with e1 _
      subst e1
      cases v <;> rfl

theorem mixKind_int (prog : Program) (w : World) (i : Int) (t : Tok) : (mixKind prog w).is (.inl i) (.int i t) = true := keyIs_int i t
theorem mixKind_str (prog : Program) (w : World) (x : Str) (t : Tok) : (mixKind prog w).is (.inr x) (.str x t) = true := keyIs_str x t
end L2

namespace L2
open PySem PySem.Spec PyProof.Rows

/-- a value, without the heap -/
inductive V where
  | non | bl (b : Bool) | int (i : Int) | str (x : Str) | byt (b : Array UInt8) | flt (b : UInt64) | ref (a : Addr) | ty (n : String)
  deriving DecidableEq

def RelV : V → Value → Prop
  | .non, u => u = Value.none
  | .bl b, u => u = Value.bool b
  | .int i, u => ∃ t, u = Value.int i t
  | .str x, u => ∃ t, u = Value.str x t
  | .byt b, u => ∃ t, u = Value.bytes b t
  | .flt b, u => ∃ t, u = Value.float b t
  | .ref a, u => u = Value.ref a
  | .ty n, u => u = Value.type n

abbrev Vals : List V → List Value → Prop := Paired RelV
theorem Vals.length {xs : List V} {us : List Value} (r : Vals xs us) : xs.length = us.length := Paired.length r
theorem Vals.get : ∀ {xs : List V} {us : List Value} {i : Nat} {x : V}, Vals xs us → xs[i]? = some x → ∃ u, us[i]? = some u ∧ RelV x u
  | _, _, _, _, .nil, e => by simp at e
  | _, _, 0, _, .cons r _, e => by simp at e; subst e; exact ⟨_, rfl, r⟩
  | _, _, i + 1, x, .cons _ t, e => by
    obtain ⟨u, h1, h2⟩ := Vals.get (i := i) (x := x) t (by simpa using e)
    exact ⟨u, by simpa using h1, h2⟩
theorem Vals.append : ∀ {xs ys : List V} {us ws : List Value}, Vals xs us → Vals ys ws → Vals (xs ++ ys) (us ++ ws)
  | _, _, _, _, .nil, s => s
  | _, _, _, _, .cons r t, s => .cons r (Vals.append t s)
theorem Vals.take : ∀ {xs : List V} {us : List Value} (n : Nat), Vals xs us → Vals (xs.take n) (us.take n)
  | _, _, 0, _ => .nil
  | _, _, _ + 1, .nil => .nil
  | _, _, n + 1, .cons r t => .cons r (Vals.take n t)
theorem Vals.drop : ∀ {xs : List V} {us : List Value} (n : Nat), Vals xs us → Vals (xs.drop n) (us.drop n)
  | _, _, 0, r => r
  | _, _, _ + 1, .nil => .nil
  | _, _, n + 1, .cons _ t => Vals.drop n t
def RelO : Option V → Option Value → Prop
  | some v, some u => RelV v u
  | none, none => True
  | _, _ => False
def KV {κ : Type} : List (κ × V) → List (κ × Value) → Prop := Paired fun (p : κ × V) (q : κ × Value) => p.1 = q.1 ∧ RelV p.2 q.2

/-- a key of a dict (00_mix): an int or a text -/
def kV : Key → V
  | .inl i => .int i
  | .inr x => .str x

/-- what stands at a tracked address -/
inductive HO where
  /-- a list -/
  | lst (xs : List V)
  /-- a tuple (never changes) -/
  | tup (xs : List V)
  /-- a dict whose keys are ints and texts; one whose keys are tuples of ints and texts (the empty one is both) -/
  | dK (kvs : List (Key × V)) | dT (kvs : List (List Key × V))
  /-- a set of ints: its members, its size -/
  | set (S : Int → Bool) (n : Nat)
  /-- an instance of the class at C, its dict at dx, its attributes -/
  | ins (C dx : Addr) (fs : List (Str × V))
  /-- the dict of the instance at x -/
  | own (x : Addr)
  /-- the dict of an exception -/
  | xd (fs : List (Str × V))
  /-- a bound method, f of x -/
  | met (f x : Addr)
  /-- a range object lo, lo + 1, .. below hi -/
  | rng (lo hi : Int)
  /-- a thing that is known to the object (the script; a dict while a loop walks it): read, never written while it is so -/
  | frz (o : Obj) (u : HO)
  /-- a code object's table -/
  | tbl (ps : Array Value)
  /-- any other thing, by what is true of its one object (a def of one's own: SetO a S n := HO.ext fun h => ..) -/
  | ext (φ : Heap → Prop)

abbrev Hp := Addr → Option HO
def upd (H : Hp) (a : Addr) (o : HO) : Hp := fun b => if b = a then some o else H b
theorem upd_same {H : Hp} {a : Addr} {o : HO} : upd H a o a = some o := by unfold upd; rw [if_pos rfl]
theorem upd_ne {H : Hp} {a b : Addr} {o : HO} (h : b ≠ a) : upd H a o b = H b := by unfold upd; rw [if_neg h]
theorem upd_upd {H : Hp} {a : Addr} {o u : HO} : upd (upd H a o) a u = upd H a u := by
  funext b; unfold upd; split <;> rfl
/-- two objects of different content stand apart -/
theorem ne_of {H : Hp} {a b : Addr} {o u : HO} (h : H a = some o) (h' : H b = some u) (d : o ≠ u) : a ≠ b := by
  intro e; subst e; rw [h] at h'; exact d (Option.some.inj h')
theorem ne_of_none {H : Hp} {a b : Addr} {o : HO} (h : H a = some o) (h' : H b = none) : a ≠ b := by
  intro e; subst e; rw [h] at h'; cases h'

section
variable (P : Program) (w : World)
def ObjOk (H : Hp) (h : Heap) (a : Addr) : HO → Prop
  | .lst xs => xs.length ≤ sizeLine ∧ ∃ (its : List Value) (n : Nat), Vals xs its ∧ h.get? a = some { cls := .type "list", data := .seq its.toArray n }
  | .tup xs => xs.length ≤ sizeLine ∧ ∃ its : List Value, Vals xs its ∧ IsTup h a its.toArray
  | .dK kvs => kvs.length ≤ sizeLine ∧ (a == sysModules) = false ∧ ∃ vs, KV kvs vs ∧ h.DictOf (mixKind P w) a vs
  | .dT kvs => kvs.length ≤ sizeLine ∧ (a == sysModules) = false ∧ ∃ xs : List (List Key × Addr × Value),
      Paired (fun (p : List Key × V) (q : List Key × Addr × Value) => p.1 = q.1 ∧ H q.2.1 = some (.tup (p.1.map kV)) ∧ RelV p.2 q.2.2) kvs xs ∧
      ∃ o es ep, h.get? a = some o ∧ o.ExactDict ∧ o.data = .dict es ep ∧ es.toList = xs.map (entryOfKey (tupleKind (mixKind P w))) ∧ (xs.map (·.1)).Nodup
  | .set S n => h.SetOf (intKind P w) a S n
  | .ins C dx fs => H dx = some (.own a) ∧ fs.length ≤ 1000 ∧ dx ≠ a ∧ h.get? a = some (PySem.W.instObj C dx) ∧
      ∃ mA, h.Ns1 dx mA ∧ (∀ f, RelO (fs.lookup f) (mA f)) ∧ PySem.Within mA (fs.map (·.1))
  | .own _ => ∃ o, h.get? a = some o
  | .xd fs => ∃ mA, h.Ns1 a mA ∧ ∀ f, RelO (fs.lookup f) (mA f)
  | .rng lo hi => ∃ t u v, h.get? a = some { cls := .type "range", data := .fields #[.int lo t, .int hi u, .int 1 v] }
  | .frz o u => h.get? a = some o ∧ ObjOk H h a u
  | .tbl ps => h.get? a = some { cls := .none, data := .fields ps }
  | .met f x => h.get? a = some (PySem.W.methodObj (.ref f) (.ref x))
  | .ext φ => φ h ∧ (∃ o, h.get? a = some o) ∧ ∀ h1 h2 : Heap, φ h1 → (∀ o, h1.get? a = some o → h2.get? a = some o) → φ h2
/-- the abstract heap is held -/
def HOk (H : Hp) (h : Heap) : Prop := ∀ a o, H a = some o → ObjOk P w H h a o
end

section
variable {P : Program} {w : World} {H H' : Hp} {h h' : Heap} {a : Addr} {o : HO}
theorem ObjOk.lt (x : ObjOk P w H h a o) : a < h.objs.size := by
  cases o with
  | lst xs => obtain ⟨_, _, _, _, e⟩ := x; exact Heap.lt_size e
  | tup xs => obtain ⟨_, _, _, p⟩ := x; exact p.lt
  | dK kvs => obtain ⟨_, _, _, _, o, _, _, e, _⟩ := x; exact Heap.lt_size e
  | dT kvs => obtain ⟨_, _, _, _, o, _, _, e, _⟩ := x; exact Heap.lt_size e
  | set S n => obtain ⟨o, _, _, _, e, _⟩ := x; exact Heap.lt_size e
  | ins C dx fs => obtain ⟨_, _, _, e, _⟩ := x; exact Heap.lt_size e
  | own y => obtain ⟨_, e⟩ := x; exact Heap.lt_size e
  | xd fs => obtain ⟨_, ⟨_, _, _, e, _⟩, _⟩ := x; exact Heap.lt_size e
  | rng lo hi => obtain ⟨_, _, _, e⟩ := x; exact Heap.lt_size e
  | frz ob u => obtain ⟨e, _⟩ := x; exact Heap.lt_size e
  | tbl ps => exact Heap.lt_size (show h.get? a = some _ from x)
  | met f y => exact Heap.lt_size (show h.get? a = some _ from x)
  | ext φ => obtain ⟨_, ⟨_, e⟩, _⟩ := x; exact Heap.lt_size e
theorem Paired.mapP {α β : Type} {F G : α → β → Prop} : ∀ {l₁ : List α} {l₂ : List β}, Paired F l₁ l₂ → (∀ a b, F a b → G a b) → Paired G l₁ l₂
  | _, _, .nil, _ => .nil
  | _, _, .cons r t, f => .cons (f _ _ r) (Paired.mapP t f)
/-- what an object's description leans on: its own object, its own dict, the tuples -/
theorem ObjOk.stay (x : ObjOk P w H h a o) (k : ∀ b u, (b = a ∨ H b = some (.own a)) → h.get? b = some u → h'.get? b = some u)
    (ho : ∀ b, H b = some (.own a) → H' b = some (.own a)) (ht : ∀ b xs, H b = some (.tup xs) → H' b = some (.tup xs)) : ObjOk P w H' h' a o := by
  induction o with
  | lst xs => obtain ⟨z, its, n, r, e⟩ := x; exact ⟨z, its, n, r, k _ _ (.inl rfl) e⟩
  | tup xs => obtain ⟨z, its, r, ob, e, c⟩ := x; exact ⟨z, its, r, ob, k _ _ (.inl rfl) e, c⟩
  | dK kvs => obtain ⟨z, y, vs, r, ob, es, ep, e, c⟩ := x; exact ⟨z, y, vs, r, ob, es, ep, k _ _ (.inl rfl) e, c⟩
  | dT kvs =>
    obtain ⟨z, y, xs, r, ob, es, ep, e, c⟩ := x
    exact ⟨z, y, xs, Paired.mapP r fun p q z => ⟨z.1, ht _ _ z.2.1, z.2.2⟩, ob, es, ep, k _ _ (.inl rfl) e, c⟩
  | set S n => obtain ⟨ob, es, ep, t, e, c⟩ := x; exact ⟨ob, es, ep, t, k _ _ (.inl rfl) e, c⟩
  | ins C dx fs =>
    obtain ⟨d, z, ne, e, mA, ⟨od, es, ep, e2, c⟩, r⟩ := x
    exact ⟨ho _ d, z, ne, k _ _ (.inl rfl) e, mA, ⟨od, es, ep, k _ _ (.inr d) e2, c⟩, r⟩
  | own y => obtain ⟨ob, e⟩ := x; exact ⟨ob, k _ _ (.inl rfl) e⟩
  | xd fs => obtain ⟨mA, ⟨od, es, ep, e, c⟩, r⟩ := x; exact ⟨mA, ⟨od, es, ep, k _ _ (.inl rfl) e, c⟩, r⟩
  | rng lo hi => obtain ⟨t, u, v, e⟩ := x; exact ⟨t, u, v, k _ _ (.inl rfl) e⟩
  | frz ob u ih => obtain ⟨e, q⟩ := x; exact ⟨k _ _ (.inl rfl) e, ih q⟩
  | tbl ps =>
    have e : h.get? a = some { cls := .none, data := .fields ps } := x
    show h'.get? a = some { cls := .none, data := .fields ps }
    exact k a _ (.inl rfl) e
  | met f y =>
    have e : h.get? a = some (PySem.W.methodObj (.ref f) (.ref y)) := x
    show h'.get? a = some (PySem.W.methodObj (.ref f) (.ref y))
    exact k a _ (.inl rfl) e
  | ext φ => obtain ⟨p, ⟨o, e⟩, st⟩ := x; exact ⟨st _ _ p fun o q => k _ _ (.inl rfl) q, ⟨o, k _ _ (.inl rfl) e⟩, st⟩
theorem HOk.lt (x : HOk P w H h) (e : H a = some o) : a < h.objs.size := (x a o e).lt
theorem HOk.fresh (x : HOk P w H h) (e : h.objs.size ≤ a) : H a = none := by
  cases q : H a with
  | none => rfl
  | some u => exact absurd (Nat.lt_of_lt_of_le (x.lt q) e) (Nat.lt_irrefl _)
/-- every object of the heap is kept -/
theorem HOk.kept (x : HOk P w H h) (k : ∀ b u, h.get? b = some u → h'.get? b = some u) : HOk P w H h' := fun a o e =>
  (x a o e).stay (fun b u _ q => k b u q) (fun _ q => q) fun _ _ q => q
/-- a new object is laid and tracked -/
theorem HOk.laid (x : HOk P w H h) (k : ∀ b u, h.get? b = some u → h'.get? b = some u) (hp : h.objs.size ≤ a) (new : ObjOk P w (upd H a o) h' a o) : HOk P w (upd H a o) h' := fun b u e => by
  have hn := x.fresh hp
  by_cases hb : b = a
  · subst hb; rw [upd_same] at e; cases e; exact new
  · rw [upd_ne hb] at e
    exact (x b u e).stay (fun c v _ q => k c v q) (fun c q => by rw [upd_ne (ne_of_none q hn)]; exact q) fun c xs q => by rw [upd_ne (ne_of_none q hn)]; exact q
end

/-- what may be read as u: it is u, or a known u -/
def Rd (H : Hp) (a : Addr) (u : HO) : Prop := H a = some u ∨ ∃ o, H a = some (.frz o u)
theorem Rd.ok {P : Program} {w : World} {H : Hp} {h : Heap} {a : Addr} {u : HO} (r : Rd H a u) (x : HOk P w H h) : ObjOk P w H h a u := by
  rcases r with r | ⟨o, r⟩
  · exact x a u r
  · obtain ⟨_, q⟩ := x a _ r
    exact q
/-- what may be written -/
def Mut : Option HO → Prop
  | some (.lst _) => True
  | some (.dK _) => True
  | some (.dT _) => True
  | some (.set _ _) => True
  | some (.ins _ _ _) => True
  | some (.ext _) => True
  | _ => False
section
variable {P : Program} {w : World} {H : Hp} {h h' : Heap} {x e : Addr} {o' : HO}
/-- the object at e is changed: x itself, or the dict of the instance x -/
theorem HOk.write (ok : HOk P w H h) (mu : Mut (H x)) (he : e = x ∨ H e = some (.own x)) (k : ∀ b u, b ≠ e → h.get? b = some u → h'.get? b = some u) (heo : ∃ u, h'.get? e = some u)
    (new : ObjOk P w (upd H x o') h' x o') : HOk P w (upd H x o') h' := fun b u q => by
  have nown : ∀ c y, H c = some (.own y) → c ≠ x := fun c y r z => by subst z; rw [r] at mu; exact mu
  have ntup : ∀ c xs, H c = some (.tup xs) → c ≠ x := fun c xs r z => by subst z; rw [r] at mu; exact mu
  by_cases hb : b = x
  · subst hb; rw [upd_same] at q; cases q; exact new
  · rw [upd_ne hb] at q
    by_cases hbe : b = e
    · have q' : H b = some (.own x) := by
        rcases he with z | z
        · exact absurd (hbe.trans z) hb
        · rw [hbe]; exact z
      rw [q] at q'; cases q'
      obtain ⟨v, hv⟩ := heo
      exact ⟨v, by rw [hbe]; exact hv⟩
    · refine (ok b u q).stay (fun c v hc r => k c v ?_ r) (fun c r => by rw [upd_ne (nown c b r)]; exact r) fun c xs r => by rw [upd_ne (ntup c xs r)]; exact r
      rcases hc with rfl | hc
      · exact hbe
      · rintro rfl
        rcases he with z | z
        · exact nown c b hc z
        · rw [hc] at z; cases z; exact hb rfl
end

/-! ### kept unless tracked; of the frames at fs (the callers') the slots may change (an exception that passes writes there); of the records at ex (iterators) nothing is said -/
structure Un (fs ex : List Addr) (H H' : Hp) (h h' : Heap) : Prop where
  keep : ∀ b o, h.get? b = some o → H b = none → b ∉ fs → b ∉ ex → h'.get? b = some o
  slot : ∀ b o, h.get? b = some o → H b = none → b ∈ fs → b ∉ ex → ∃ sl, h'.get? b = some { o with slots := sl }
  free : ∀ b o, h.get? b = some o → H b = none → b ∉ ex → H' b = none
  there : ∀ b o, h.get? b = some o → b ∉ ex → ∃ o', h'.get? b = some o'
  tups : ∀ b xs, H b = some (.tup xs) → H' b = some (.tup xs)
  frzs : ∀ b o u, H b = some (.frz o u) → H' b = some (.frz o u)
  tbls : ∀ b ps, H b = some (.tbl ps) → ∃ more, H' b = some (.tbl (ps ++ more))
section
variable {fs fs' ex ex' : List Addr} {H H1 H2 : Hp} {h h1 h2 h' : Heap} {a x e : Addr} {o : HO}
theorem Un.any (u : Un fs ex H H1 h h1) {b : Addr} {ob : Obj} (q : h.get? b = some ob) (n : H b = none) (hx : b ∉ ex) : ∃ sl, h1.get? b = some { ob with slots := sl } := by
  by_cases hb : b ∈ fs
  · exact u.slot b ob q n hb hx
  · exact ⟨ob.slots, u.keep b ob q n hb hx⟩
theorem Un.kept (k : ∀ b u, h.get? b = some u → h'.get? b = some u) : Un fs ex H H h h' :=
  ⟨fun b ob q _ _ _ => k b ob q, fun b ob q _ _ _ => ⟨ob.slots, k b ob q⟩, fun _ _ _ n _ => n, fun b ob q _ => ⟨ob, k b ob q⟩, fun _ _ q => q, fun _ _ _ q => q, fun _ ps q => ⟨#[], by rw [q]; simp⟩⟩
theorem Un.refl : Un fs ex H H h h := Un.kept fun _ _ q => q
theorem Un.laid (k : ∀ b u, h.get? b = some u → h'.get? b = some u) (hp : h.objs.size ≤ a) (hn : H a = none) : Un fs ex H (upd H a o) h h' where
  keep := fun b u q _ _ _ => k b u q
  slot := fun b u q _ _ _ => ⟨u.slots, k b u q⟩
  free := fun b u q n _ => by rw [upd_ne (Nat.ne_of_lt (Nat.lt_of_lt_of_le (Heap.lt_size q) hp))]; exact n
  there := fun b u q _ => ⟨u, k b u q⟩
  tups := fun b xs q => by rw [upd_ne (ne_of_none q hn)]; exact q
  frzs := fun b u xs q => by rw [upd_ne (ne_of_none q hn)]; exact q
  tbls := fun b ps q => ⟨#[], by rw [upd_ne (ne_of_none q hn), q]; simp⟩
theorem Un.write (mu : Mut (H x)) (he : e = x ∨ H e = some (.own x)) (k : ∀ b u, b ≠ e → h.get? b = some u → h'.get? b = some u) (heo : ∃ u, h'.get? e = some u) : Un fs ex H (upd H x o) h h' := by
  have hx : ∀ b, H b = none → b ≠ x := fun b n z => by subst z; rw [n] at mu; exact mu
  have hb : ∀ b, H b = none → b ≠ e := fun b n z => by
    subst z
    rcases he with r | r
    · exact hx b n r
    · rw [n] at r; cases r
  have hm : ∀ b u, H b = some u → ¬ Mut (some u) → b ≠ x := fun b u q nm z => by subst z; rw [q] at mu; exact nm mu
  refine ⟨fun b u q n _ _ => k b u (hb b n) q, fun b u q n _ _ => ⟨u.slots, k b u (hb b n) q⟩, fun b u q n _ => by rw [upd_ne (hx b n)]; exact n, fun b u q _ => ?_,
    fun b xs q => by rw [upd_ne (hm b _ q fun z => z)]; exact q, fun b u xs q => by rw [upd_ne (hm b _ q fun z => z)]; exact q, fun b ps q => ⟨#[], by rw [upd_ne (hm b _ q fun z => z), q]; simp⟩⟩
  by_cases hbe : b = e
  · subst hbe; exact heo
  · exact ⟨u, k b u hbe q⟩
end

/-! ### the heap without what is tracked -/
def trk (h : Heap) (H : Hp) : List Addr := (List.range h.objs.size).filter fun a => (H a).isSome
def hidT (h : Heap) (H : Hp) : Heap := PySem.W.hideAll h (trk h H)
theorem hidT_size (h : Heap) (H : Hp) : (hidT h H).objs.size = h.objs.size := PySem.W.hideAll_size _ _
theorem hidT_get {h : Heap} {H : Hp} {b : Addr} {o : Obj} (e : h.get? b = some o) (n : H b = none) : (hidT h H).get? b = some o :=
  PySem.W.hideAll_get _ e fun hm => by
    have q : (H b).isSome = true := (List.mem_filter.mp hm).2
    rw [n] at q; simp at q
theorem of_hidT {h : Heap} {H : Hp} {b : Addr} {o : Obj} (e : (hidT h H).get? b = some o) : h.get? b = some o ∧ H b = none := by
  have e' : h.get? b = some o := PySem.W.of_hideAll (trk h H) e
  refine ⟨e', ?_⟩
  cases q : H b with
  | none => rfl
  | some x =>
    have hm : b ∈ trk h H := List.mem_filter.mpr ⟨List.mem_range.mpr (Heap.lt_size e'), by simp [q]⟩
    have z : (hidT h H).get? b = none := PySem.W.hideAll_none (trk h H) hm
    rw [z] at e; cases e

/-! ### OpenK's ledger, filled with every new object but one -/
end L2

namespace L2
open PySem PySem.Spec PyProof.Rows

/-- the module's facts, over the base: the heap at the law's entry without what is tracked there -/
structure Mod (K : PySem.W.Frag) (mg : Str → Option Value) (base : Heap) : Prop where
  kin : K.In base
  glob : base.Ns mainGlobals mg
  blt : ∃ mb, base.Ns builtinsNs mb ∧ ∀ x : Str, x ≠ "__name__" → mb x = bootBuiltins x
  nolimit : base.NoLimit

/-- the context: a def's body (or a comprehension's block) running. base: fixed through the whole law; s₀, H₀: the entry; outer: the frames whose slots others may change (a def's callers); stack: all frames that run;
   ex: iterators that were made ahead of the entry and are walked here (a comprehension's); fn: the names whose cells were made at the entry (a def: all; a comprehension's block: its own); calm: not within an except suite; pn: pins that every state bears; xe: what is wanted of an exception that leaves the code -/
structure Cx where
  prog : Program
  w : World
  K : PySem.W.Frag
  mg : Str → Option Value
  base : Heap
  A : Around
  N : List Str
  s₀ : Shared
  H₀ : Hp
  env : Env
  outer : List Env
  stack : List Env
  ex : List Addr
  fn : Str → Bool
  calm : Bool
  pn : List (Addr × Obj)
  xe : Value → Shared → Prop
/-- the callers' frames -/
def frs (l : List Env) : List Addr := l.filterMap (·.frame)
abbrev Cx.fs (X : Cx) : List Addr := frs X.outer

def Vis (sc : Scope) (x : Str) : Prop := sc.names.lookup x = some .local ∨ sc.names.lookup x = some .cell ∨ sc.names.lookup x = some .free
def Loc (sc : Scope) (x : Str) : Prop := sc.names.lookup x = some .local ∨ sc.names.lookup x = some .cell
def Look (env : Env) (h : Heap) (m : Str → Option Value) (x : Str) (u : Value) : Prop :=
  (env.kindOf x = some .local ∧ m x = some u) ∨ ((env.kindOf x = some .cell ∨ env.kindOf x = some .free) ∧ ∃ c, env.cells.lookup x = some c ∧ h.IsCell c (some u))

structure Cx.Ok (X : Cx) : Prop where
  mod : Mod X.K X.mg X.base
  kind : X.env.scope.kind = .function
  glob : X.env.globals = mainGlobals
  blt : X.env.builtins = builtinsNs
  above : X.s₀.heap.objs.size ≤ X.env.locals
  inj : ∀ x y c, X.env.cells.lookup x = some c → X.env.cells.lookup y = some c → x = y
  has : ∀ x, (X.env.kindOf x = some .cell ∨ X.env.kindOf x = some .free) → ∃ c, X.env.cells.lookup x = some c
  cab : ∀ x c, X.fn x = true → X.env.cells.lookup x = some c → X.s₀.heap.objs.size ≤ c
  hd : X.calm = true → X.A.handled = none
  frames : X.A.frames = some X.stack
  stk : X.stack = X.outer ∨ (X.stack = X.env :: X.outer ∧ X.env.frame = some X.env.locals)
  exf : ∀ b ∈ X.ex, b ≠ X.env.locals ∧ ∀ x c, X.env.cells.lookup x = some c → c ≠ b
  bs : ∀ b o, X.base.get? b = some o → X.s₀.heap.get? b = some o ∧ X.H₀ b = none
  bsz : X.base.objs.size ≤ X.s₀.heap.objs.size
  noex : ∀ b o, X.base.get? b = some o → b ∉ X.ex
  exfs : ∀ b ∈ X.ex, b ∉ X.fs
  funs : X.s₀.heap.FunFrames X.base X.outer
  frf : ∀ b ∈ X.fs, X.H₀ b = none

structure Inv (X : Cx) (pins : List (Addr × Obj)) (σ : List (Option V)) (H : Hp) (s : Shared) : Prop where
  ok : X.Ok
  os : s.os = X.s₀.os
  bare : AllBare s.gens
  base : Un X.fs X.ex X.H₀ H X.s₀.heap s.heap
  loc : ∃ m, s.heap.Ns X.env.locals m ∧ ∀ (i : Nat) (x : Str) (v : V), X.N[i]? = some x → σ[i]? = some (some v) → Vis X.env.scope x → ∃ u, RelV v u ∧ Look X.env s.heap m x u
  cell : ∀ x c, X.env.cells.lookup x = some c → ∃ v, s.heap.IsCell c v
  free : H X.env.locals = none
  freeC : ∀ x c, X.env.cells.lookup x = some c → H c = none
  pin : ∀ p ∈ X.pn ++ pins, s.heap.get? p.1 = some p.2 ∧ H p.1 = none ∧ p.1 ≠ X.env.locals ∧ p.1 ∉ X.fs ∧ ∀ v, p.2.data ≠ .cell v
  hok : HOk X.prog X.w H s.heap
  len : σ.length = X.N.length

section
variable {X : Cx} {pins : List (Addr × Obj)} {σ : List (Option V)} {H H' : Hp} {s : Shared} {h' : Heap}

theorem Cx.Ok.nofr (ok : X.Ok) {b : Addr} {o : Obj} (e : X.base.get? b = some o) : b ∉ X.fs := fun hb => by
  have := (ok.funs.mem hb).1
  rw [e] at this; cases this
theorem Inv.bs (I : Inv X pins σ H s) : ∀ b o, X.base.get? b = some o → s.heap.get? b = some o ∧ H b = none := fun b o e =>
  ⟨I.base.keep b o (I.ok.bs b o e).1 (I.ok.bs b o e).2 (I.ok.nofr e) (I.ok.noex b o e), I.base.free b o (I.ok.bs b o e).1 (I.ok.bs b o e).2 (I.ok.noex b o e)⟩
theorem Inv.bk (I : Inv X pins σ H s) : ∀ b o, X.base.get? b = some o → s.heap.get? b = some o := fun b o e => (I.bs b o e).1
theorem Inv.mod (I : Inv X pins σ H s) : Mod X.K X.mg X.base := I.ok.mod
theorem Inv.kIn (I : Inv X pins σ H s) : X.K.In s.heap := I.ok.mod.kin.keeps I.bk
theorem Inv.lt (I : Inv X pins σ H s) : X.env.locals < s.heap.objs.size := let ⟨_, hn, _⟩ := I.loc; hn.lt
theorem Inv.sz (I : Inv X pins σ H s) : X.s₀.heap.objs.size ≤ s.heap.objs.size := Nat.le_trans I.ok.above (Nat.le_of_lt I.lt)
theorem Inv.nofs (I : Inv X pins σ H s) {a : Addr} (h : s.heap.objs.size ≤ a) : a ∉ X.fs := fun hb => by
  obtain ⟨_, o, ho, _⟩ := I.ok.funs.mem hb
  exact absurd (Nat.lt_of_lt_of_le (Heap.lt_size ho) (Nat.le_trans I.sz h)) (Nat.lt_irrefl _)
theorem Inv.cne (I : Inv X pins σ H s) : ∀ x c, X.env.cells.lookup x = some c → c ≠ X.env.locals := fun x c e z => by
  obtain ⟨v, o, ho, hd⟩ := I.cell x c e
  obtain ⟨m, ⟨o', es, ep, ho', hd', _⟩, _⟩ := I.loc
  rw [z, ho'] at ho; cases ho; rw [hd'] at hd; cases hd
theorem Inv.funs (I : Inv X pins σ H s) : s.heap.FunFrames X.base X.outer := by
  have all : ∀ (l : List Env), (∀ b ∈ frs l, b ∈ X.fs) → X.s₀.heap.FunFrames X.base l → s.heap.FunFrames X.base l := by
    intro l
    induction l with
    | nil => intro _ _; trivial
    | cons env r ih =>
      intro hs hl
      obtain ⟨hk, ⟨L, o, hf, hn, ho, hd⟩, hr⟩ := hl
      have hL : L ∈ X.fs := hs L (by unfold frs; rw [List.filterMap_cons, hf]; exact List.mem_cons_self)
      obtain ⟨sl, e⟩ := I.base.slot L o ho (I.ok.frf L hL) hL fun z => I.ok.exfs L z hL
      exact ⟨hk, ⟨L, _, hf, hn, e, hd⟩, ih (fun b hb => hs b (by unfold frs; rw [List.filterMap_cons, hf]; exact List.mem_cons_of_mem _ hb)) hr⟩
  exact all X.outer (fun _ hb => hb) I.ok.funs

/-- the frames that run, for a call -/
theorem Inv.stack (I : Inv X pins σ H s) : s.heap.FunFrames X.base X.stack := by
  rcases I.ok.stk with e | ⟨e, hf⟩
  · rw [e]; exact I.funs
  · rw [e]
    obtain ⟨m, hn, _⟩ := I.loc
    refine .cons (by rw [I.ok.kind]; decide) hf hn ?_ I.funs
    exact Heap.get?_none_of_le (Nat.le_trans I.ok.bsz I.ok.above)
theorem Inv.stkSub (I : Inv X pins σ H s) : ∀ b ∈ frs X.stack, b ∈ X.env.locals :: X.fs := fun b hb => by
  rcases I.ok.stk with e | ⟨e, hf⟩
  · rw [e] at hb; exact List.mem_cons_of_mem _ hb
  · rw [e] at hb
    unfold frs at hb
    rw [List.filterMap_cons, hf] at hb
    exact hb
theorem Inv.stkFree (I : Inv X pins σ H s) : ∀ b ∈ frs X.stack, H b = none := fun b hb => by
  rcases List.mem_cons.mp (I.stkSub b hb) with e | hb
  · rw [e]; exact I.free
  · obtain ⟨_, o, ho, _⟩ := I.ok.funs.mem hb
    exact I.base.free b o ho (I.ok.frf b hb) fun z => I.ok.exfs b z hb

/-- THE STEP: the untracked objects but the frame and the records at ch are kept (the callers' frames up to slots), the frame's map is kept, the new abstract heap is held -/
theorem Inv.step {g' : Array GenState} {t' : Nat} {d' : Drawn} {ch : List Addr} (I : Inv X pins σ H s)
    (hch : ∀ b ∈ ch, (b ∈ X.ex ∨ X.s₀.heap.objs.size ≤ b) ∧ b ≠ X.env.locals ∧ (∀ x c, X.env.cells.lookup x = some c → c ≠ b) ∧ ∀ p ∈ X.pn ++ pins, p.1 ≠ b)
    (keep : ∀ b o, b ≠ X.env.locals → b ∉ X.fs → b ∉ ch → s.heap.get? b = some o → H b = none → h'.get? b = some o)
    (slot : ∀ b o, b ≠ X.env.locals → b ∈ X.fs → b ∉ ch → s.heap.get? b = some o → H b = none → ∃ sl, h'.get? b = some { o with slots := sl }) (free : ∀ b o, b ∉ ch → s.heap.get? b = some o → H b = none → H' b = none)
    (there : ∀ b o, b ∉ ch → s.heap.get? b = some o → ∃ o', h'.get? b = some o')
    (tups : ∀ b xs, H b = some (.tup xs) → H' b = some (.tup xs)) (frzs : ∀ b o u, H b = some (.frz o u) → H' b = some (.frz o u)) (tbls : ∀ b ps, H b = some (.tbl ps) → ∃ more, H' b = some (.tbl (ps ++ more)))
    (ns : ∀ m, s.heap.Ns X.env.locals m → h'.Ns X.env.locals m) (hok : HOk X.prog X.w H' h') (hg : AllBare g') :
    Inv X pins σ H' { s with heap := h', gens := g', drawn := d', toks := t' } := by
  have neL : ∀ b o, X.s₀.heap.get? b = some o → b ≠ X.env.locals := fun b o e => Nat.ne_of_lt (Nat.lt_of_lt_of_le (Heap.lt_size e) I.ok.above)
  have neC : ∀ b o, X.s₀.heap.get? b = some o → b ∉ X.ex → b ∉ ch := fun b o e hx hb => by
    rcases (hch b hb).1 with z | z
    · exact hx z
    · exact absurd (Nat.lt_of_lt_of_le (Heap.lt_size e) z) (Nat.lt_irrefl _)
  have cellK : ∀ x c, X.env.cells.lookup x = some c → ∀ v, s.heap.IsCell c v → h'.IsCell c v := fun x c e v ⟨o, ho, hd⟩ => by
    have nch : c ∉ ch := fun z => (hch c z).2.2.1 x c e rfl
    by_cases hc : c ∈ X.fs
    · obtain ⟨sl, q⟩ := slot c o (I.cne x c e) hc nch ho (I.freeC x c e)
      exact ⟨_, q, hd⟩
    · exact ⟨o, keep c o (I.cne x c e) hc nch ho (I.freeC x c e), hd⟩
  refine ⟨I.ok, I.os, hg, ⟨fun b o e n hb hx => ?_, fun b o e n hb hx => ?_, fun b o e n hx => ?_, fun b o e hx => ?_, fun b xs e => tups b xs (I.base.tups b xs e), fun b o xs e => frzs b o xs (I.base.frzs b o xs e), fun b ps e => ?_⟩, ?_, fun x c e => ?_, ?_, fun x c e => ?_, fun p hp => ?_, hok, I.len⟩
  · exact keep b o (neL b o e) hb (neC b o e hx) (I.base.keep b o e n hb hx) (I.base.free b o e n hx)
  · obtain ⟨sl, e1⟩ := I.base.slot b o e n hb hx
    obtain ⟨sl', e2⟩ := slot b _ (neL b o e) hb (neC b o e hx) e1 (I.base.free b o e n hx)
    exact ⟨sl', e2⟩
  · obtain ⟨o', e1⟩ := I.base.there b o e hx
    exact free b o' (neC b o e hx) e1 (I.base.free b o e n hx)
  · obtain ⟨o', e1⟩ := I.base.there b o e hx
    exact there b o' (neC b o e hx) e1
  · obtain ⟨m1, e1⟩ := I.base.tbls b ps e
    obtain ⟨m2, e2⟩ := tbls b _ e1
    exact ⟨m1 ++ m2, by rw [e2, Array.append_assoc]⟩
  · obtain ⟨m, hn, hl⟩ := I.loc
    refine ⟨m, ns m hn, fun i x v e1 e2 e3 => ?_⟩
    obtain ⟨u, r, l⟩ := hl i x v e1 e2 e3
    refine ⟨u, r, ?_⟩
    rcases l with l | ⟨k, c, e, z⟩
    · exact .inl l
    · exact .inr ⟨k, c, e, cellK x c e _ z⟩
  · obtain ⟨v, z⟩ := I.cell x c e
    exact ⟨v, cellK x c e v z⟩
  · obtain ⟨m, ⟨o, _, _, ho, _⟩, _⟩ := I.loc
    exact free _ o (fun z => (hch _ z).2.1 rfl) ho I.free
  · obtain ⟨v, o, ho, hd⟩ := I.cell x c e
    exact free c o (fun z => (hch c z).2.2.1 x c e rfl) ho (I.freeC x c e)
  · obtain ⟨e, n, ne, nf, d⟩ := I.pin p hp
    have nch : p.1 ∉ ch := fun z => (hch p.1 z).2.2.2 p hp rfl
    exact ⟨keep p.1 p.2 ne nf nch e n, free p.1 p.2 nch e n, ne, nf, d⟩
/-- .. where the frame's own object is kept too -/
theorem Inv.un {t' : Nat} (I : Inv X pins σ H s) (u : Un X.fs [] H H' s.heap h') (hok : HOk X.prog X.w H' h') : Inv X pins σ H' { s with heap := h', toks := t' } := by
  obtain ⟨m, ⟨o, es, ep, ho, r⟩, _⟩ := id I.loc
  obtain ⟨sl, hL⟩ := u.any ho I.free (by simp)
  exact I.step (g' := s.gens) (d' := s.drawn) (ch := []) (fun _ z => nomatch z) (fun b o _ hb _ e n => u.keep b o e n hb (by simp)) (fun b o _ hb _ e n => u.slot b o e n hb (by simp)) (fun b o _ e n => u.free b o e n (by simp)) (fun b o _ e => u.there b o e (by simp)) u.tups u.frzs u.tbls (fun m' hm => by
    obtain ⟨o', es', ep', ho', r'⟩ := hm
    rw [ho] at ho'; cases ho'
    exact ⟨_, es', ep', hL, r'⟩) hok I.bare
/-- behind a call (or a comprehension's block): the slots of this frame may have changed too, the records at ch may have turned -/
theorem Inv.call {g' : Array GenState} {t' : Nat} {d' : Drawn} {ch : List Addr} (I : Inv X pins σ H s) (u : Un (frs X.stack) ch H H' s.heap h') (hok : HOk X.prog X.w H' h') (hg : AllBare g')
    (hch : ∀ b ∈ ch, (b ∈ X.ex ∨ X.s₀.heap.objs.size ≤ b) ∧ b ≠ X.env.locals ∧ (∀ x c, X.env.cells.lookup x = some c → c ≠ b) ∧ ∀ p ∈ X.pn ++ pins, p.1 ≠ b) :
    Inv X pins σ H' { s with heap := h', gens := g', drawn := d', toks := t' } := by
  obtain ⟨m, ⟨o, es, ep, ho, r⟩, _⟩ := id I.loc
  obtain ⟨sl, hL⟩ := u.any ho I.free fun z => (hch _ z).2.1 rfl
  exact I.step (ch := ch) hch (fun b o hL hb hc e n => u.keep b o e n (fun z => (List.mem_cons.mp (I.stkSub b z)).elim hL hb) hc) (fun b o _ _ hc e n => u.any e n hc) (fun b o hc e n => u.free b o e n hc) (fun b o hc e => u.there b o e hc) u.tups u.frzs u.tbls (fun m' hm => by
    obtain ⟨o', es', ep', ho', r'⟩ := hm
    rw [ho] at ho'; cases ho'
    exact ⟨_, es', ep', hL, r'⟩) hok hg
/-- an untracked record of ours (an iterator) has turned -/
theorem Inv.turned {t' : Nat} {it : Addr} (I : Inv X pins σ H s) (k : ∀ b o, b ≠ it → s.heap.get? b = some o → h'.get? b = some o) (hn : H it = none) (hL : it ≠ X.env.locals)
    (h1 : it ∈ X.ex ∨ X.s₀.heap.objs.size ≤ it) (h2 : ∀ x c, X.env.cells.lookup x = some c → c ≠ it) (h3 : ∀ p ∈ X.pn ++ pins, p.1 ≠ it) : Inv X pins σ H { s with heap := h', toks := t' } := by
  have nit : ∀ b u, H b = some u → b ≠ it := fun b u e z => by rw [z, hn] at e; cases e
  refine I.step (g' := s.gens) (d' := s.drawn) (ch := [it]) (fun b hb => ?_) (fun b o _ _ hc e _ => k b o (fun z => hc (by simp [z])) e) (fun b o _ _ hc e _ => ⟨o.slots, k b o (fun z => hc (by simp [z])) e⟩) (fun _ _ _ _ n => n)
    (fun b o hc e => ⟨o, k b o (fun z => hc (by simp [z])) e⟩) (fun _ _ e => e) (fun _ _ _ e => e) (fun b ps e => ⟨#[], by rw [e]; simp⟩) (fun m hm => ?_) (fun b u e => ?_) I.bare
  · have e : b = it := by simpa using hb
    subst e
    exact ⟨h1, hL, h2, h3⟩
  · obtain ⟨o, es, ep, ho, r⟩ := hm
    exact ⟨o, es, ep, k _ o (Ne.symm hL) ho, r⟩
  · refine (I.hok b u e).stay (fun c v hc q => k c v ?_ q) (fun _ q => q) fun _ _ q => q
    rcases hc with z | z
    · rw [z]; exact nit b u e
    · exact nit c _ z
theorem Inv.tok (I : Inv X pins σ H s) (t : Nat) : Inv X pins σ H { s with toks := t } := I.un (h' := s.heap) (t' := t) Un.refl I.hok
/-- all objects kept -/
theorem Inv.kept {t' : Nat} (I : Inv X pins σ H s) (k : ∀ b u, s.heap.get? b = some u → h'.get? b = some u) : Inv X pins σ H { s with heap := h', toks := t' } := I.un (Un.kept k) (I.hok.kept k)
/-- a new object laid and tracked -/
theorem Inv.laid {a : Addr} {o : HO} {t' : Nat} (I : Inv X pins σ H s) (k : ∀ b u, s.heap.get? b = some u → h'.get? b = some u) (hp : s.heap.objs.size ≤ a) (new : ObjOk X.prog X.w (upd H a o) h' a o) :
    Inv X pins σ (upd H a o) { s with heap := h', toks := t' } := I.un (Un.laid k hp (I.hok.fresh hp)) (I.hok.laid k hp new)
/-- an object written -/
theorem Inv.write {x e : Addr} {o : HO} {t' : Nat} (I : Inv X pins σ H s) (mu : Mut (H x)) (he : e = x ∨ H e = some (.own x)) (k : ∀ b u, b ≠ e → s.heap.get? b = some u → h'.get? b = some u) (heo : ∃ u, h'.get? e = some u)
    (new : ObjOk X.prog X.w (upd H x o) h' x o) : Inv X pins σ (upd H x o) { s with heap := h', toks := t' } := I.un (Un.write mu he k heo) (I.hok.write mu he k heo new)
theorem Inv.pins_of {pins' : List (Addr × Obj)} (I : Inv X pins σ H s) (h : ∀ p ∈ pins', s.heap.get? p.1 = some p.2 ∧ H p.1 = none ∧ p.1 ≠ X.env.locals ∧ p.1 ∉ X.fs ∧ ∀ v, p.2.data ≠ .cell v) : Inv X pins' σ H s :=
  ⟨I.ok, I.os, I.bare, I.base, I.loc, I.cell, I.free, I.freeC, fun p hp => (List.mem_append.mp hp).elim (fun z => I.pin p (List.mem_append_left _ z)) (h p), I.hok, I.len⟩

theorem nodup_ix {N : List Str} (hN : N.Nodup) {i j : Nat} {x : Str} (a : N[i]? = some x) (b : N[j]? = some x) : i = j := by
  obtain ⟨h1, e1⟩ := List.getElem?_eq_some_iff.mp a
  obtain ⟨h2, e2⟩ := List.getElem?_eq_some_iff.mp b
  exact (List.getElem_inj hN).mp (e1.trans e2.symm)

/-- a name is stored; what changed -/
theorem store_ok2 {M : Model} {A : Around} {E : Value → Shared → Prop} {i : Nat} {x : Str} {v : V} {u : Value} {Q : Unit → Shared → Prop} (I : Inv X pins σ H s) (hN : X.N.Nodup) (hi : X.N[i]? = some x) (hx : Loc X.env.scope x) (r : RelV v u)
    (h : ∀ s', Inv X pins (σ.set i (some v)) H s' → (∃ a, Heap.SameBut a s.heap s'.heap ∧ (a = X.env.locals ∨ X.env.cells.lookup x = some a)) → Q () s') (hf : X.fn x = true ∨ X.env.scope.names.lookup x = some .local := by first | exact .inl rfl | exact .inr rfl | assumption) : wpAny M A (storeName X.env x u) Q E s := by
  obtain ⟨m, hn, hl⟩ := id I.loc
  have hcls : (X.env.scope.kind == .class || (X.env.scope.kind == .module && X.env.locals != X.env.globals)) = false := by rw [I.ok.kind]; rfl
  have hiσ : i < σ.length := by rw [I.len]; exact (List.getElem?_eq_some_iff.mp hi).1
  have cne := I.cne
  have tracked : ∀ {a : Addr} {h' : Heap}, (∃ o, s.heap.get? a = some o ∧ H a = none) → Heap.SameBut a s.heap h' → HOk X.prog X.w H h' := fun {a h'} ha hs b ob e => by
    obtain ⟨_, _, hfree⟩ := ha
    refine (I.hok b ob e).stay (fun c w' hc q => (hs.2 c ?_).trans q) (fun _ q => q) fun _ _ q => q
    rintro rfl
    rcases hc with rfl | hc
    · rw [hfree] at e; cases e
    · rw [hfree] at hc; cases hc
  rcases hx with hk | hk
  · refine wpAny_storeName_local hk hn (fun h' hn' hs => ?_) hcls
    obtain ⟨oL, _, _, hoL, _⟩ := id hn
    refine h _ ⟨I.ok, I.os, I.bare, ⟨fun b o e n hb hx => ?_, fun b o e n hb hx => ?_, I.base.free, fun b o e hx => ?_, I.base.tups, I.base.frzs, I.base.tbls⟩, ⟨_, hn', fun j y v' e1 e2 e3 => ?_⟩, fun y c e => ?_, I.free, I.freeC, fun p hp => ?_, tracked ⟨oL, hoL, I.free⟩ hs, by simpa using I.len⟩ ⟨_, hs, .inl rfl⟩
    · exact (hs.2 b (Nat.ne_of_lt (Nat.lt_of_lt_of_le (Heap.lt_size e) I.ok.above))).trans (I.base.keep b o e n hb hx)
    · obtain ⟨sl, e1⟩ := I.base.slot b o e n hb hx
      exact ⟨sl, (hs.2 b (Nat.ne_of_lt (Nat.lt_of_lt_of_le (Heap.lt_size e) I.ok.above))).trans e1⟩
    · obtain ⟨o', e1⟩ := I.base.there b o e hx
      exact ⟨o', (hs.2 b (Nat.ne_of_lt (Nat.lt_of_lt_of_le (Heap.lt_size e) I.ok.above))).trans e1⟩
    · by_cases hj : j = i
      · subst hj
        rw [hi] at e1; cases e1
        rw [List.getElem?_set_self hiσ] at e2
        cases e2
        exact ⟨u, r, .inl ⟨hk, by simp⟩⟩
      · rw [List.getElem?_set_ne (Ne.symm hj)] at e2
        obtain ⟨u', r', q⟩ := hl j y v' e1 e2 e3
        refine ⟨u', r', ?_⟩
        rcases q with ⟨k, e⟩ | ⟨k, c, e, z⟩
        · refine .inl ⟨k, ?_⟩
          have : y ≠ x := fun e => hj (nodup_ix hN e1 (e ▸ hi))
          simp [this, e]
        · exact .inr ⟨k, c, e, z.sameBut hs (cne y c e)⟩
    · obtain ⟨w', z⟩ := I.cell y c e
      exact ⟨w', z.sameBut hs (cne y c e)⟩
    · obtain ⟨e, n, ne, nf, d⟩ := I.pin p hp
      exact ⟨(hs.2 p.1 ne).trans e, n, ne, nf, d⟩
  · have hfn : X.fn x = true := by
      rcases hf with z | z
      · exact z
      · rw [z] at hk; cases hk
    obtain ⟨c, hc⟩ := I.ok.has x (.inl hk)
    obtain ⟨w', z⟩ := I.cell x c hc
    refine wpAny_storeName_cell I.ok.kind hk hc z (fun h' hc' hs => ?_)
    obtain ⟨oc, hoc, hocd⟩ := id z
    refine h { s with heap := h' } ⟨I.ok, I.os, I.bare, ⟨fun b o e n hb hx => ?_, fun b o e n hb hx => ?_, I.base.free, fun b o e hx => ?_, I.base.tups, I.base.frzs, I.base.tbls⟩, ⟨m, hn.sameBut hs (Ne.symm (cne x c hc)), fun j y v' e1 e2 e3 => ?_⟩, fun y c' e => ?_, I.free, I.freeC, fun p hp => ?_, tracked ⟨oc, hoc, I.freeC x c hc⟩ hs, by simpa using I.len⟩ ⟨c, hs, .inr hc⟩
    · exact (hs.2 b (Nat.ne_of_lt (Nat.lt_of_lt_of_le (Heap.lt_size e) (I.ok.cab x c hfn hc)))).trans (I.base.keep b o e n hb hx)
    · obtain ⟨sl, e1⟩ := I.base.slot b o e n hb hx
      exact ⟨sl, (hs.2 b (Nat.ne_of_lt (Nat.lt_of_lt_of_le (Heap.lt_size e) (I.ok.cab x c hfn hc)))).trans e1⟩
    · obtain ⟨o', e1⟩ := I.base.there b o e hx
      exact ⟨o', (hs.2 b (Nat.ne_of_lt (Nat.lt_of_lt_of_le (Heap.lt_size e) (I.ok.cab x c hfn hc)))).trans e1⟩
    · by_cases hj : j = i
      · subst hj
        rw [hi] at e1; cases e1
        rw [List.getElem?_set_self hiσ] at e2
        cases e2
        exact ⟨u, r, .inr ⟨.inl hk, c, hc, hc'⟩⟩
      · rw [List.getElem?_set_ne (Ne.symm hj)] at e2
        obtain ⟨u', r', q⟩ := hl j y v' e1 e2 e3
        refine ⟨u', r', ?_⟩
        rcases q with q | ⟨k, c', e, z'⟩
        · exact .inl q
        · refine .inr ⟨k, c', e, z'.sameBut hs ?_⟩
          rintro rfl
          exact hj (nodup_ix hN e1 (I.ok.inj _ _ _ e hc ▸ hi))
    · by_cases hcc : c' = c
      · subst hcc; exact ⟨_, hc'⟩
      · obtain ⟨w2, z2⟩ := I.cell y c' e
        exact ⟨w2, z2.sameBut hs hcc⟩
    · obtain ⟨e, n, ne, nf, d⟩ := I.pin p hp
      refine ⟨(hs.2 p.1 ?_).trans e, n, ne, nf, d⟩
      intro q
      rw [q, hoc] at e
      have q' : oc = p.2 := Option.some.inj e
      exact d w' (by rw [← q']; exact hocd)
theorem store_ok {M : Model} {A : Around} {E : Value → Shared → Prop} {i : Nat} {x : Str} {v : V} {u : Value} {Q : Unit → Shared → Prop} (I : Inv X pins σ H s) (hN : X.N.Nodup) (hi : X.N[i]? = some x) (hx : Loc X.env.scope x) (r : RelV v u)
    (h : ∀ s', Inv X pins (σ.set i (some v)) H s' → Q () s') (hf : X.fn x = true ∨ X.env.scope.names.lookup x = some .local := by first | exact .inl rfl | exact .inr rfl | assumption) : wpAny M A (storeName X.env x u) Q E s :=
  store_ok2 I hN hi hx r (fun s' I' _ => h s' I') hf
/-- behind a call or a block, the state as it is -/
theorem Inv.call' {s' : Shared} {ch : List Addr} (I : Inv X pins σ H s) (ho : s'.os = s.os) (u : Un (frs X.stack) ch H H' s.heap s'.heap) (hok : HOk X.prog X.w H' s'.heap) (hg : AllBare s'.gens)
    (hch : ∀ b ∈ ch, (b ∈ X.ex ∨ X.s₀.heap.objs.size ≤ b) ∧ b ≠ X.env.locals ∧ (∀ x c, X.env.cells.lookup x = some c → c ≠ b) ∧ ∀ p ∈ X.pn ++ pins, p.1 ≠ b) : Inv X pins σ H' s' := by
  obtain ⟨h', g', d', t', o'⟩ := s'
  have e : o' = s.os := ho
  subst e
  exact I.call (g' := g') (t' := t') (d' := d') u hok hg hch
end

/-! ### the judgements -/
/-- an exception: its class, its own dict's address (where it has one), the abstract heap behind it -/
abbrev XK := Value → Option Addr → Hp → Prop
abbrev St := List (Option V)
abbrev VK := V → Hp → Prop
/-- an expression's reading; a test's; an argument list's -/
abbrev TE := St → Hp → VK → Prop
abbrev TT := St → Hp → (Bool → Hp → Prop) → Prop
abbrev TA := St → Hp → (List V → Hp → Prop) → Prop
/-- what is wanted behind a statement -/
structure Ends where
  nx : St → Hp → Prop
  rt : VK
  bk : St → Hp → Prop := fun _ _ => False
  ct : St → Hp → Prop := fun _ _ => False
abbrev TS := Ends → St → Hp → Prop

def EP (X : Cx) (pins : List (Addr × Obj)) (σ : St) (Q : VK) (u : Value) (s' : Shared) : Prop := ∃ v H', Inv X pins σ H' s' ∧ RelV v u ∧ Q v H'
def TP (X : Cx) (pins : List (Addr × Obj)) (σ : St) (Q : Bool → Hp → Prop) (b : Bool) (s' : Shared) : Prop := ∃ H', Inv X pins σ H' s' ∧ Q b H'
def AP (X : Cx) (pins : List (Addr × Obj)) (σ : St) (Q : List V → Hp → Prop) (us : List Value) (s' : Shared) : Prop := ∃ vs H', Inv X pins σ H' s' ∧ Vals vs us ∧ Q vs H'
def SP (X : Cx) (pins : List (Addr × Obj)) (D : Ends) (f : Flow) (s' : Shared) : Prop :=
  match f with
  | .next => ∃ σ' H', Inv X pins σ' H' s' ∧ D.nx σ' H'
  | .brk => ∃ σ' H', Inv X pins σ' H' s' ∧ D.bk σ' H'
  | .cont => ∃ σ' H', Inv X pins σ' H' s' ∧ D.ct σ' H'
  | .ret u => ∃ v σ' H', Inv X pins σ' H' s' ∧ RelV v u ∧ D.rt v H'

def PE (X : Cx) (e : Expr) (t : TE) : Prop :=
  ∀ (pins : List (Addr × Obj)) (s : Shared) (σ : St) (H : Hp) (Q : VK), Inv X pins σ H s → t σ H Q → wpAny (model X.prog X.w) X.A (eval e X.env) (EP X pins σ Q) X.xe s
def PT (X : Cx) (e : Expr) (t : TT) : Prop :=
  ∀ (pins : List (Addr × Obj)) (s : Shared) (σ : St) (H : Hp) (Q : Bool → Hp → Prop), Inv X pins σ H s → t σ H Q → wpAny (model X.prog X.w) X.A (isTrue e X.env (eval e X.env)) (TP X pins σ Q) X.xe s
/-- a test whatever its 'whole' is (and, or) -/
def PW (X : Cx) (e : Expr) (t : TT) : Prop :=
  ∀ (whole : Sem Value) (pins : List (Addr × Obj)) (s : Shared) (σ : St) (H : Hp) (Q : Bool → Hp → Prop), Inv X pins σ H s → t σ H Q → wpAny (model X.prog X.w) X.A (isTrue e X.env whole) (TP X pins σ Q) X.xe s
theorem PW.pt {X : Cx} {e : Expr} {t : TT} (h : PW X e t) : PT X e t := h _
/-- an argument list (no star), from the left -/
def PA (X : Cx) (es : List Expr) (t : TA) : Prop :=
  ∀ (pos : Pos) (pins : List (Addr × Obj)) (s : Shared) (σ : St) (H : Hp) (Q : List V → Hp → Prop), Inv X pins σ H s → t σ H Q → wpAny (model X.prog X.w) X.A (spliced (backTo pos (starEach es X.env))) (AP X pins σ Q) X.xe s
def PS (X : Cx) (st : Stmt) (t : TS) : Prop :=
  ∀ (pins : List (Addr × Obj)) (s : Shared) (σ : St) (H : Hp) (D : Ends), Inv X pins σ H s → t D σ H → wpAny (model X.prog X.w) X.A (exec st X.env) (SP X pins D) X.xe s
def PSs (X : Cx) (st : List Stmt) (t : TS) : Prop :=
  ∀ (pins : List (Addr × Obj)) (s : Shared) (σ : St) (H : Hp) (D : Ends), Inv X pins σ H s → t D σ H → wpAny (model X.prog X.w) X.A (execs st X.env) (SP X pins D) X.xe s
/-- weaken the end -/
theorem thn {α : Type} {t : Sem α} {Q Q' : α → Shared → Prop} {M : Model} {A : Around} {E : Value → Shared → Prop} {s : Shared} (h : wpAny M A t Q E s) (hQ : ∀ a s, Q a s → Q' a s) : wpAny M A t Q' E s := wpAny_mono h hQ fun _ _ x => x
end L2

namespace L2
open PySem PySem.Spec PyProof.Rows
section
variable {X : Cx}

/-! ### names and constants -/
def tVar (i : Nat) : TE := fun σ H Q => ∃ v, σ[i]? = some (some v) ∧ Q v H
def tC (v : V) : TE := fun _ H Q => Q v H
theorem pe_var {i : Nat} {x : Str} {pos : Pos} (hN : X.N[i]? = some x) (hv : Vis X.env.scope x) (hd : (x == ("__debug__" : Str)) = false := by decide) (hcd : (x == ("__classdict__" : Str)) = false := by decide) : PE X (.Name x pos) (tVar i) := by
  intro pins s σ H Q I h
  obtain ⟨v, e, h⟩ := h
  obtain ⟨m, hn, hl⟩ := I.loc
  obtain ⟨u, r, l⟩ := hl i x v hN e hv
  have fin : EP X pins σ Q u s := ⟨v, H, I, r, h⟩
  rcases l with ⟨hk, hm⟩ | ⟨hk, c, hc, hcell⟩
  · exact wpAny_Name (wpAny_loadName_local I.ok.kind hk hn hm fin) hd
  · rcases hk with hk | hk
    · exact wpAny_Name (wpAny_loadName_cell I.ok.kind hk hc hcell fin) hd
    · exact wpAny_Name (wpAny_loadName_free I.ok.kind hk hc hcell fin hcd) hd
theorem pe_int {i j pos} : PE X (.Constant (.int i) j pos) (tC (.int i)) := fun _ _ _ H _ I h => wpAny_Constant_int ⟨.int i, H, I.tok _, ⟨_, rfl⟩, h⟩
theorem pe_bl {b j pos} : PE X (.Constant (.bool b) j pos) (tC (.bl b)) := fun _ _ _ H _ I h => Constant_bool ⟨.bl b, H, I, rfl, h⟩
theorem pe_non {j pos} : PE X (.Constant .none j pos) (tC .non) := fun _ _ _ H _ I h => Constant_none ⟨.non, H, I, rfl, h⟩
theorem pe_str {x j pos} : PE X (.Constant (.str x) j pos) (tC (.str x)) := fun _ _ _ H _ I h => Calls.Constant_str ⟨.str x, H, I.tok _, ⟨_, rfl⟩, h⟩

/-- a global name of the def -/
def Gl (X : Cx) (x : Str) : Prop := X.env.kindOf x = some .globalImplicit
theorem ld_glob {E : Value → Shared → Prop} {pins : List (Addr × Obj)} {s : Shared} {σ : St} {H : Hp} {x : Str} {u : Value} {pos : Pos} {Q : Value → Shared → Prop} (I : Inv X pins σ H s) (hg : Gl X x) (hm : X.mg x = some u) (h : Q u s)
    (hd : (x == ("__debug__" : Str)) = false := by decide) : wpAny (model X.prog X.w) X.A (eval (.Name x pos) X.env) Q E s :=
  Calls.Name_function_global I.ok.kind hg (Calls.loadGlobal_global (by rw [I.ok.glob]; exact I.mod.glob.keeps I.bk) hm h) hd
theorem ld_blt {E : Value → Shared → Prop} {pins : List (Addr × Obj)} {s : Shared} {σ : St} {H : Hp} {x : Str} {u : Value} {pos : Pos} {Q : Value → Shared → Prop} (I : Inv X pins σ H s) (hg : Gl X x) (hm : X.mg x = none) (hv : bootBuiltins x = some u) (h : Q u s)
    (hn : x ≠ "__name__" := by decide) (hd : (x == ("__debug__" : Str)) = false := by decide) : wpAny (model X.prog X.w) X.A (eval (.Name x pos) X.env) Q E s := by
  obtain ⟨mb, h1, h2⟩ := I.mod.blt
  exact Calls.Name_function_global I.ok.kind hg (Calls.loadGlobal_builtin (by rw [I.ok.glob]; exact I.mod.glob.keeps I.bk) hm (by rw [I.ok.blt]; exact h1.keeps I.bk) ((h2 x hn).trans hv) h) hd
/-- a module's constant, a class, a function, as a value -/
theorem pe_glob {x : Str} {v : V} {u : Value} {pos : Pos} (hg : Gl X x) (hm : X.mg x = some u) (r : RelV v u) (hd : (x == ("__debug__" : Str)) = false := by decide) : PE X (.Name x pos) (tC v) :=
  fun _ _ _ H _ I h => ld_glob I hg hm ⟨v, H, I, r, h⟩ hd
theorem pe_bltn {x : Str} {v : V} {u : Value} {pos : Pos} (hg : Gl X x) (hm : X.mg x = none) (hv : bootBuiltins x = some u) (r : RelV v u) (hn : x ≠ "__name__" := by decide) (hd : (x == ("__debug__" : Str)) = false := by decide) : PE X (.Name x pos) (tC v) :=
  fun _ _ _ H _ I h => ld_blt I hg hm hv ⟨v, H, I, r, h⟩ hn hd

/-! ### arithmetic -/
variable {a b : Expr} {ta tb : TE} {pos : Pos}
/-! ### comparisons -/
/-- a comparison as a value, as a test -/
def tB (t : TE) : TT := fun σ H Q => t σ H fun x H1 => ∃ c, x = .bl c ∧ Q c H1
/-- an expression whose value is a bool, as a test -/
theorem pt_val {e : Expr} {t : TE} (h : PE X e t) (he : ∀ whole, isTrue e X.env whole = (do let v ← whole; standAt e.pos; holding [v] (truthy v)) := by intro _; rfl) : PT X e (tB t) := by
  intro pins s σ H Q I hw
  refine isTrue_plain (thn (h pins s σ H _ I hw) fun v s1 ⟨x, H1, I1, r1, q1⟩ => ?_) (he _)
  obtain ⟨d, rfl, q⟩ := q1
  cases r1
  exact wpAny_truthy_bool ⟨H1, I1, q⟩

/-! ### and, or, not -/
variable {tA tB' : TT} {rest : List Expr}
def tAnd (t u : TT) : TT := fun σ H Q => t σ H fun c H1 => if c = true then u σ H1 Q else Q false H1
def tOr (t u : TT) : TT := fun σ H Q => t σ H fun c H1 => if c = true then Q true H1 else u σ H1 Q
def tNot (t : TT) : TT := fun σ H Q => t σ H fun c H1 => Q (!c) H1
theorem pw_and1 (ha : PT X a tA) : PW X (.BoolOp .And [a] pos) tA := by
  intro wh pins s σ H Q I h
  refine isTrue_and (thn (ha pins s σ H Q I h) fun c s1 e => ?_)
  cases c with
  | true => exact isTrue_and_nil e
  | false => exact e
theorem pw_or1 (ha : PT X a tA) : PW X (.BoolOp .Or [a] pos) tA := by
  intro wh pins s σ H Q I h
  refine isTrue_or (thn (ha pins s σ H Q I h) fun c s1 e => ?_)
  cases c with
  | false => exact isTrue_or_nil e
  | true => exact e
theorem pw_and (ha : PT X a tA) (hb : PW X (.BoolOp .And (b :: rest) pos) tB') : PW X (.BoolOp .And (a :: b :: rest) pos) (tAnd tA tB') := by
  intro wh pins s σ H Q I h
  refine isTrue_and (thn (ha pins s σ H _ I h) fun c s1 ⟨H1, I1, q1⟩ => ?_)
  cases c with
  | true => exact hb wh pins s1 σ H1 Q I1 q1
  | false => exact ⟨H1, I1, q1⟩
theorem pw_or (ha : PT X a tA) (hb : PW X (.BoolOp .Or (b :: rest) pos) tB') : PW X (.BoolOp .Or (a :: b :: rest) pos) (tOr tA tB') := by
  intro wh pins s σ H Q I h
  refine isTrue_or (thn (ha pins s σ H _ I h) fun c s1 ⟨H1, I1, q1⟩ => ?_)
  cases c with
  | true => exact ⟨H1, I1, q1⟩
  | false => exact hb wh pins s1 σ H1 Q I1 q1
theorem pt_not (ha : PT X a tA) : PT X (.UnaryOp .Not a pos) (tNot tA) := by
  intro pins s σ H Q I h
  exact isTrue_not (ha pins s σ H (fun c H1 => Q (!c) H1) I h)
/-- .. as values (bools) -/
def tAndV (ta tb : TE) : TE := fun σ H Q => ta σ H fun x H1 => ∃ c, x = .bl c ∧ if c = true then tb σ H1 Q else Q (.bl false) H1
theorem pe_one {op} {t : TE} (h : PE X a t) : PE X (.BoolOp op [a] pos) t := fun pins s σ H Q I hw => BoolOp_one (h pins s σ H Q I hw)
theorem pe_and (ha : PE X a ta) (hb : PE X (.BoolOp .And (b :: rest) pos) tb) : PE X (.BoolOp .And (a :: b :: rest) pos) (tAndV ta tb) := by
  intro pins s σ H Q I h
  refine BoolOp_and (thn (ha pins s σ H _ I h) fun v s1 ⟨x, H1, I1, r1, q1⟩ => ?_)
  obtain ⟨c, rfl, q1⟩ := q1
  cases r1
  refine wpAny_truthy_bool ?_
  cases c with
  | true => exact hb pins s1 σ H1 Q I1 q1
  | false => exact ⟨.bl false, H1, I1, rfl, q1⟩
end
end L2

namespace L2
open PySem PySem.Spec PyProof.Rows

/-! ### a list, a tuple that is read: tracked, frozen, or an object of the module -/
def SqL (K : PySem.W.Frag) (H : Hp) (a : Addr) (xs : List V) : Prop :=
  Rd H a (.lst xs) ∨
    ∃ (o : Obj) (its : Array Value) (n : Nat), K.lookup a = some o ∧ o.cls = .type "list" ∧ o.dict = none ∧ o.data = .seq its n ∧ its.size ≤ sizeLine ∧ Vals xs its.toList
def SqT (K : PySem.W.Frag) (H : Hp) (a : Addr) (xs : List V) : Prop :=
  Rd H a (.tup xs) ∨
    ∃ (o : Obj) (its : Array Value) (n : Nat), K.lookup a = some o ∧ o.cls = .type "tuple" ∧ o.data = .seq its n ∧ its.size ≤ sizeLine ∧ Vals xs its.toList
def absV : Value → Option V
  | .none => some .non
  | .bool b => some (.bl b)
  | .int i _ => some (.int i)
  | .str x _ => some (.str x)
  | .bytes b _ => some (.byt b)
  | .float b _ => some (.flt b)
  | .ref a => some (.ref a)
  | .type n => some (.ty n)
  | _ => none
theorem RelV.abs {x : V} {u : Value} (r : RelV x u) : absV u = some x := by
  cases x with
  | non => cases r; rfl
  | bl _ => cases r; rfl
  | int _ => obtain ⟨t, rfl⟩ := r; rfl
  | str _ => obtain ⟨t, rfl⟩ := r; rfl
  | byt _ => obtain ⟨t, rfl⟩ := r; rfl
  | flt _ => obtain ⟨t, rfl⟩ := r; rfl
  | ref _ => cases r; rfl
  | ty _ => cases r; rfl
theorem RelV.inj {x y : V} {u : Value} (r : RelV x u) (q : RelV y u) : x = y := Option.some.inj (r.abs.symm.trans q.abs)
theorem Vals.inj : ∀ {xs ys : List V} {us : List Value}, Vals xs us → Vals ys us → xs = ys
  | _, _, _, .nil, .nil => rfl
  | _, _, _, .cons r t, .cons r' t' => by rw [r.inj r', Vals.inj t t']
section
variable {X : Cx} {pins : List (Addr × Obj)} {σ : St} {H : Hp} {s : Shared} {a : Addr} {xs ys : List V}
theorem SqL.of {K : PySem.W.Frag} (h : H a = some (.lst xs)) : SqL K H a xs := .inl (.inl h)
theorem SqT.of {K : PySem.W.Frag} (h : H a = some (.tup xs)) : SqT K H a xs := .inl (.inl h)
theorem Inv.list (I : Inv X pins σ H s) (h : SqL X.K H a xs) : ∃ its : List Value, Vals xs its ∧ PlainL s.heap a its.toArray ∧ xs.length ≤ sizeLine := by
  rcases h with h | ⟨o, its, n, hk, hc, hd, hs, hz, r⟩
  · obtain ⟨z, its, n, r, e⟩ := h.ok I.hok
    exact ⟨its, r, ⟨_, n, e, rfl, rfl, rfl⟩, z⟩
  · refine ⟨its.toList, r, ⟨o, n, I.kIn a o hk, hc, hd, by simpa using hs⟩, ?_⟩
    have e := r.length
    simp only [Array.length_toList] at e
    omega
theorem Inv.tuple (I : Inv X pins σ H s) (h : SqT X.K H a xs) : ∃ its : List Value, Vals xs its ∧ IsTup s.heap a its.toArray ∧ xs.length ≤ sizeLine := by
  rcases h with h | ⟨o, its, n, hk, hc, hs, hz, r⟩
  · obtain ⟨z, its, r, p⟩ := h.ok I.hok
    exact ⟨its, r, p, z⟩
  · refine ⟨its.toList, r, ⟨o, I.kIn a o hk, hc, n, by simpa using hs⟩, ?_⟩
    have e := r.length
    simp only [Array.length_toList] at e
    omega
theorem Inv.list_inj (I : Inv X pins σ H s) (h : SqL X.K H a xs) (h' : SqL X.K H a ys) : xs = ys := by
  obtain ⟨its, r, ⟨o, n, e, _, _, d⟩, _⟩ := I.list h
  obtain ⟨its', r', ⟨o', n', e', _, _, d'⟩, _⟩ := I.list h'
  rw [e] at e'; cases e'
  rw [d] at d'
  injection d' with d1 _
  have : its = its' := by simpa using congrArg Array.toList d1
  subst this
  exact r.inj r'
theorem Inv.tuple_inj (I : Inv X pins σ H s) (h : SqT X.K H a xs) (h' : SqT X.K H a ys) : xs = ys := by
  obtain ⟨its, r, ⟨o, e, _, n, d⟩, _⟩ := I.tuple h
  obtain ⟨its', r', ⟨o', e', _, n', d'⟩, _⟩ := I.tuple h'
  rw [e] at e'; cases e'
  rw [d] at d'
  injection d' with d1 _
  have : its = its' := by simpa using congrArg Array.toList d1
  subst this
  exact r.inj r'
end

/-! ### another wish about exceptions -/
abbrev Cx.wish (X : Cx) (E : Value → Shared → Prop) : Cx := { X with xe := E }
/-- no exception leaves -/
abbrev Cx.nox (X : Cx) : Cx := X.wish fun _ _ => False
theorem Cx.Ok.wish {X : Cx} (ok : X.Ok) (E : Value → Shared → Prop) : (X.wish E).Ok :=
  ⟨ok.mod, ok.kind, ok.glob, ok.blt, ok.above, ok.inj, ok.has, ok.cab, ok.hd, ok.frames, ok.stk, ok.exf, ok.bs, ok.bsz, ok.noex, ok.exfs, ok.funs, ok.frf⟩
theorem Cx.Ok.unwish {X : Cx} {E : Value → Shared → Prop} (ok : (X.wish E).Ok) : X.Ok :=
  ⟨ok.mod, ok.kind, ok.glob, ok.blt, ok.above, ok.inj, ok.has, ok.cab, ok.hd, ok.frames, ok.stk, ok.exf, ok.bs, ok.bsz, ok.noex, ok.exfs, ok.funs, ok.frf⟩
section
variable {X : Cx} {pins : List (Addr × Obj)} {σ : St} {H : Hp} {s : Shared} {E : Value → Shared → Prop}
theorem Inv.wish (I : Inv X pins σ H s) (E : Value → Shared → Prop) : Inv (X.wish E) pins σ H s := ⟨I.ok.wish E, I.os, I.bare, I.base, I.loc, I.cell, I.free, I.freeC, I.pin, I.hok, I.len⟩
theorem Inv.unwish (I : Inv (X.wish E) pins σ H s) : Inv X pins σ H s := ⟨I.ok.unwish, I.os, I.bare, I.base, I.loc, I.cell, I.free, I.freeC, I.pin, I.hok, I.len⟩
theorem SP.unwish {D : Ends} {f : Flow} {s' : Shared} (h : SP (X.wish E) pins D f s') : SP X pins D f s' := by
  cases f with
  | next => obtain ⟨σ', H', I, q⟩ := h; exact ⟨σ', H', I.unwish, q⟩
  | brk => obtain ⟨σ', H', I, q⟩ := h; exact ⟨σ', H', I.unwish, q⟩
  | cont => obtain ⟨σ', H', I, q⟩ := h; exact ⟨σ', H', I.unwish, q⟩
  | ret u => obtain ⟨v, σ', H', I, r, q⟩ := h; exact ⟨v, σ', H', I.unwish, r, q⟩
theorem PSs.nox {st : List Stmt} {t : TS} (h : PSs X.nox st t) : PSs X st t := fun pins s σ H D I hw =>
  wpAny_mono (h pins s σ H D (I.wish _) hw) (fun _ _ q => q.unwish) fun _ _ z => False.elim z
end

/-! ### blocks and small statements -/
section
variable {X : Cx} {st : Stmt} {rest : List Stmt} {t u : TS} {e : Expr} {te : TE} {pos : Pos}
def tNext : TS := fun D σ H => D.nx σ H
def tSeq (t u : TS) : TS := fun D σ H => t { D with nx := u D } σ H
theorem pss_nil : PSs X [] tNext := fun _ _ σ H _ I h => wpAny_execs_nil ⟨σ, H, I, h⟩
theorem pss_cons (h1 : PS X st t) (h2 : PSs X rest u) : PSs X (st :: rest) (tSeq t u) := by
  intro pins s σ H D I h
  refine wpAny_execs_cons (thn (h1 pins s σ H { D with nx := u D } I h) fun f s1 q => ?_)
  cases f with
  | next =>
    obtain ⟨σ', H', I', q⟩ := q
    exact h2 pins s1 σ' H' D I' q
  | ret v => exact q
  | brk => exact q
  | cont => exact q
theorem pss_one (h1 : PS X st t) : PSs X [st] t := by
  intro pins s σ H D I h
  refine wpAny_execs_cons (thn (h1 pins s σ H D I h) fun f s1 q => ?_)
  cases f with
  | next => exact wpAny_execs_nil q
  | ret v => exact q
  | brk => exact q
  | cont => exact q
/-- in a def's body nothing is shown -/
theorem Inv.quiet {pins : List (Addr × Obj)} {σ : St} {H : Hp} {s : Shared} (I : Inv X pins σ H s) : interactive X.env = false := by simp [interactive, I.ok.kind]
/-- an expression whose value is dropped -/
def tDrop (te : TE) : TS := fun D σ H => te σ H fun _ H1 => D.nx σ H1
theorem ps_expr (he : PE X e te) (hs : swapsWith e none pos.line X.env = pure false := by rfl) : PS X (.Expr e pos) (tDrop te) := by
  intro pins s σ H D I h
  exact wpAny_Expr_any (thn (he pins s σ H _ I h) fun v s1 ⟨x, H1, I1, r1, q1⟩ => ⟨σ, H1, I1, q1⟩) I.quiet hs
def tRet (te : TE) : TS := fun D σ H => te σ H D.rt
theorem ps_ret (he : PE X e te) : PS X (.Return (some e) pos) (tRet te) := by
  intro pins s σ H D I h
  exact wpAny_Return_some (thn (he pins s σ H _ I h) fun v s1 ⟨x, H1, I1, r1, q1⟩ => ⟨x, σ, H1, I1, r1, q1⟩)
def tIfS (c : TT) (t u : TS) : TS := fun D σ H => c σ H fun b H1 => if b = true then t D σ H1 else u D σ H1
theorem ps_if {c : Expr} {a b : List Stmt} {tc : TT} (hc : PT X c tc) (ha : PSs X a t) (hb : PSs X b u) : PS X (.If c a b pos) (tIfS tc t u) := by
  intro pins s σ H D I h
  refine wpAny_If (thn (hc pins s σ H _ I h) fun d s1 ⟨H1, I1, q1⟩ => ?_)
  cases d with
  | true => exact ha pins s1 σ H1 D I1 q1
  | false => exact hb pins s1 σ H1 D I1 q1
end

/-! ### targets -/
abbrev TG := V → St → Hp → (St → Hp → Prop) → Prop
abbrev TGs := List V → St → Hp → (St → Hp → Prop) → Prop
def PG (X : Cx) (target : Expr) (t : TG) : Prop :=
  ∀ (pins : List (Addr × Obj)) (s : Shared) (σ : St) (H : Hp) (v : V) (u : Value) (Q : St → Hp → Prop), Inv X pins σ H s → RelV v u → t v σ H Q →
    wpAny (model X.prog X.w) X.A (assign target X.env u) (fun _ s' => ∃ σ' H', Inv X pins σ' H' s' ∧ Q σ' H') X.xe s
/-- several targets, one after another -/
def PGs (X : Cx) (ts : List Expr) (t : TGs) : Prop :=
  ∀ (pins : List (Addr × Obj)) (s : Shared) (σ : St) (H : Hp) (vs : List V) (us : List Value) (Q : St → Hp → Prop), Inv X pins σ H s → Vals vs us → t vs σ H Q →
    wpAny (model X.prog X.w) X.A (assignInOrder ((assignEach ts X.env).map (·.2)) us) (fun _ s' => ∃ σ' H', Inv X pins σ' H' s' ∧ Q σ' H') X.xe s
/-- a op= b, by values -/
abbrev TIp := V → V → Hp → VK → Prop
def PIp (X : Cx) (op : Operator) (t : TIp) : Prop :=
  ∀ (pins : List (Addr × Obj)) (s : Shared) (σ : St) (H : Hp) (x y : V) (v u : Value) (Q : VK), Inv X pins σ H s → RelV x v → RelV y u → t x y H Q →
    wpAny (model X.prog X.w) X.A (inplaceOp op v u) (EP X pins σ Q) X.xe s
section
variable {X : Cx} {pos : Pos}
def gName (i : Nat) : TG := fun v σ H Q => Q (σ.set i (some v)) H
theorem pg_name {i : Nat} {x : Str} (hN : X.N.Nodup) (hi : X.N[i]? = some x) (hx : Loc X.env.scope x) (hf : X.fn x = true ∨ X.env.scope.names.lookup x = some .local := by first | exact .inl rfl | exact .inr rfl | assumption) : PG X (.Name x pos) (gName i) := by
  intro pins s σ H v u Q I r h
  exact wpAny_assign_Name (store_ok I hN hi hx r (fun s' I' => ⟨_, H, I', h⟩) hf)
def gNil : TGs := fun vs σ H Q => vs = [] ∧ Q σ H
def gCons (t : TG) (u : TGs) : TGs := fun vs σ H Q => ∃ v r, vs = v :: r ∧ t v σ H fun σ' H' => u r σ' H' Q
theorem pgs_nil : PGs X [] gNil := by
  intro pins s σ H vs us Q I r h
  obtain ⟨e, h⟩ := h
  subst e
  cases r
  exact assignInOrder_nil ⟨σ, H, I, h⟩
theorem pgs_cons {e : Expr} {es : List Expr} {t : TG} {u : TGs} (h1 : PG X e t) (h2 : PGs X es u)
    (hs : (assignEach (e :: es) X.env).map (·.2) = assign e X.env :: (assignEach es X.env).map (·.2) := by rfl) : PGs X (e :: es) (gCons t u) := by
  intro pins s σ H vs us Q I r h
  obtain ⟨v, vr, e1, h⟩ := h
  subst e1
  cases r with
  | cons r rr =>
    rw [hs]
    refine assignInOrder_cons (thn (h1 pins s σ H _ _ _ I r h) fun _ s1 ⟨σ1, H1, I1, q1⟩ => ?_)
    exact h2 pins s1 σ1 H1 _ _ Q I1 rr q1
/-- (a, b, ..) = a tuple of that length -/
def gTup (K : PySem.W.Frag) (n : Nat) (t : TGs) : TG := fun v σ H Q => ∃ a xs, v = .ref a ∧ SqT K H a xs ∧ xs.length = n ∧ t xs σ H Q
theorem pg_tup {es : List Expr} {k : Nat} {t : TGs} {n : Nat} (hc : X.calm = true) (h : PGs X es t)
    (hn : (assignEach es X.env).length = n := by rfl) (hst : (assignEach es X.env).findIdx? (·.1) = none := by rfl) : PG X (.Tuple es k pos) (gTup X.K n t) := by
  intro pins s σ H v u Q I r hw
  obtain ⟨a, xs, e1, hq, hl, hw⟩ := hw
  subst e1
  cases r
  obtain ⟨its, rv, ht, hz⟩ := I.tuple hq
  refine assign_Tuple_tuple (I.ok.hd hc) ht (by simp [hn, ← hl, rv.length]) hst fun h' hx => ?_
  have I1 : Inv X pins σ H { s with heap := h' } := I.kept (t' := s.toks) fun b o e => hx b o (Nat.ne_of_lt (Heap.lt_size e)) e
  exact h pins _ σ H xs _ Q I1 (by simpa using rv) hw
/-- target = value -/
def tAsg (te : TE) (g : TG) : TS := fun D σ H => te σ H fun x H1 => g x σ H1 D.nx
/-- name = value -/
theorem ps_set {i : Nat} {x : Str} {e : Expr} {te : TE} {pos' : Pos} (hN : X.N.Nodup) (hi : X.N[i]? = some x) (hx : Loc X.env.scope x) (he : PE X e te) (hs : swapsWith e (some (.Name x pos')) pos.line X.env = pure false := by rfl) (hf : X.fn x = true ∨ X.env.scope.names.lookup x = some .local := by first | exact .inl rfl | exact .inr rfl | assumption) :
    PS X (.Assign [.Name x pos'] e pos) (tAsg te (gName i)) := by
  intro pins s σ H D I h
  refine wpAny_Assign_Name (thn (he pins s σ H _ I h) fun v s1 ⟨y, H1, I1, r1, q1⟩ => ?_) hs
  exact store_ok I1 hN hi hx r1 (fun s2 I2 => ⟨_, H1, I2, q1⟩) hf
/-- name op= e -/
def tAug (i : Nat) (te : TE) (ti : TIp) : TS := fun D σ H => ∃ x, σ[i]? = some (some x) ∧ te σ H fun y H1 => ti x y H1 fun z H2 => D.nx (σ.set i (some z)) H2
theorem ps_aug {i : Nat} {x : Str} {e : Expr} {te : TE} {op : Operator} {ti : TIp} {pos' : Pos} (hN : X.N.Nodup) (hi : X.N[i]? = some x) (hx : Loc X.env.scope x) (he : PE X e te) (ho : PIp X op ti) (hf : X.fn x = true ∨ X.env.scope.names.lookup x = some .local := by first | exact .inl rfl | exact .inr rfl | assumption) :
    PS X (.AugAssign (.Name x pos') op e pos) (tAug i te ti) := by
  intro pins s σ H D I h
  obtain ⟨v, e1, h⟩ := h
  obtain ⟨m, hn, hl⟩ := I.loc
  have vis : Vis X.env.scope x := by rcases hx with k | k; exact .inl k; exact .inr (.inl k)
  obtain ⟨u, r, l⟩ := hl i x v hi e1 vis
  refine wpAny_AugAssign_Name ?_
  have go : wpAny (model X.prog X.w) X.A (eval e X.env) (fun w s₂ => wpAny (model X.prog X.w) X.A (inplaceOp op u w) (fun r s₃ => wpAny (model X.prog X.w) X.A (storeName X.env x r) (fun _ => SP X pins D .next) X.xe s₃) X.xe s₂) X.xe s := by
    refine thn (he pins s σ H _ I h) fun w s1 ⟨y, H1, I1, r1, q1⟩ => ?_
    refine thn (ho pins s1 σ H1 v y u w _ I1 r r1 q1) fun z s2 ⟨zv, H2, I2, r2, q2⟩ => ?_
    exact store_ok I2 hN hi hx r2 (fun s3 I3 => ⟨_, H2, I3, q2⟩) hf
  rcases l with ⟨hk, hm⟩ | ⟨hk, c, hc, hcell⟩
  · exact wpAny_loadName_local I.ok.kind hk hn hm go
  · rcases hk with hk | hk
    · exact wpAny_loadName_cell I.ok.kind hk hc hcell go
    · rcases hx with k | k
      · have : X.env.scope.names.lookup x = some .free := hk
        rw [k] at this; cases this
      · have : X.env.scope.names.lookup x = some .free := hk
        rw [k] at this; cases this
/-- ints -/
def ipI (f : Int → Int → Int) : TIp := fun x y H Q => ∃ i j, x = .int i ∧ y = .int j ∧ Q (.int (f i j)) H
theorem ip_add : PIp X .Add (ipI fun i j => i + j) := by
  intro pins s σ H x y v u Q I r1 r2 h
  obtain ⟨i, j, e1, e2, q⟩ := h
  subst e1; subst e2
  obtain ⟨t, rfl⟩ := r1
  obtain ⟨t', rfl⟩ := r2
  exact iadd_int ⟨.int _, H, I.tok _, ⟨_, rfl⟩, q⟩
theorem ip_sub : PIp X .Sub (ipI fun i j => i - j) := by
  intro pins s σ H x y v u Q I r1 r2 h
  obtain ⟨i, j, e1, e2, q⟩ := h
  subst e1; subst e2
  obtain ⟨t, rfl⟩ := r1
  obtain ⟨t', rfl⟩ := r2
  exact isub_int ⟨.int _, H, I.tok _, ⟨_, rfl⟩, q⟩
end

/-! ### while -/
section
variable {X : Cx} {pos : Pos}
end

/-! ### what a loop or a comprehension walks -/
/-- at turn i: it yields x (the heap may grow), or it stops -/
structure It where
  go : Nat → Hp → Prop
  yld : Nat → Hp → V → Hp → Prop
  stop : Nat → Hp → Prop
/-- the iterator's own objects may turn: they are not the frame's, not pinned, younger than the entry (or a comprehension's own) -/
def FpOk (X : Cx) (pins : List (Addr × Obj)) (H : Hp) (b : Addr) : Prop :=
  H b = none ∧ b ≠ X.env.locals ∧ b ∉ X.fs ∧ (b ∈ X.ex ∨ X.s₀.heap.objs.size ≤ b) ∧ (∀ x c, X.env.cells.lookup x = some c → c ≠ b) ∧ ∀ p ∈ X.pn ++ pins, p.1 ≠ b
theorem Inv.fpOk {X : Cx} {pins : List (Addr × Obj)} {σ : St} {H H' : Hp} {s : Shared} {b : Addr} (I : Inv X pins σ H s) (hb : s.heap.objs.size ≤ b) (hn : H' b = none) : FpOk X pins H' b := by
  refine ⟨hn, Nat.ne_of_gt (Nat.lt_of_lt_of_le I.lt hb), I.nofs hb, .inr (Nat.le_trans I.sz hb), fun x c e z => ?_, fun p hp z => ?_⟩
  · obtain ⟨v, q⟩ := I.cell x c e
    exact absurd (Nat.lt_of_lt_of_le q.lt (by rw [z]; exact hb)) (Nat.lt_irrefl _)
  · exact absurd (Nat.lt_of_lt_of_le (Heap.lt_size (I.pin p hp).1) (by rw [z]; exact hb)) (Nat.lt_irrefl _)
structure Turn (P : Program) (w : World) (K : PySem.W.Frag) (tg : Expr) (J : It) (fp : List Addr) (it : Addr) (tn : Nat → Heap → Prop) : Prop where
  mem : it ∈ fp
  obj : ∀ i h, tn i h → ∀ b ∈ fp, ∃ o, h.get? b = some o ∧ ∀ v, o.data ≠ .cell v
  keep : ∀ i h h', tn i h → (∀ b ∈ fp, ∀ o, h.get? b = some o → h'.get? b = some o) → tn i h'
  item : ∀ (X : Cx), X.prog = P → X.w = w → X.K = K → X.calm = true → ∀ (i : Nat) (pins : List (Addr × Obj)) (s : Shared) (σ : St) (H : Hp) (E : Value → Shared → Prop), Inv X pins σ H s → (∀ b ∈ fp, FpOk X pins H b) → tn i s.heap → J.go i H →
    wpAny (model P w) X.A (pyNext (.ref it)) (fun r s1 => ∃ u, r = some u ∧
      wpAny (model P w) X.A (letOwnedTupleGo tg (.ref it) u) (fun _ s2 => ∃ x H', Inv X pins σ H' s2 ∧ RelV x u ∧ J.yld i H x H' ∧ tn (i + 1) s2.heap ∧ ∀ b ∈ fp, H' b = none) E s1) E s
  done : ∀ (X : Cx), X.prog = P → X.w = w → X.K = K → X.calm = true → ∀ (i : Nat) (pins : List (Addr × Obj)) (s : Shared) (σ : St) (H : Hp) (E : Value → Shared → Prop), Inv X pins σ H s → (∀ b ∈ fp, FpOk X pins H b) → tn i s.heap → J.stop i H →
    wpAny (model P w) X.A (pyNext (.ref it)) (fun r s1 => r = none ∧ Inv X pins σ H s1) E s
  self : ∀ (A : Around) (i : Nat) (s : Shared) (Q : Value → Shared → Prop) (E : Value → Shared → Prop), tn i s.heap → Q (.ref it) s → wpAny (model P w) A (pyIter (.ref it)) Q E s
abbrev TI := St → Hp → (It → Hp → Prop) → Prop
/-- an iterator has come -/
def PIE (X : Cx) (pins : List (Addr × Obj)) (σ : St) (tg : Expr) (R : It → Hp → Prop) (itv : Value) (s2 : Shared) : Prop :=
  ∃ (it : Addr) (fp : List Addr) (tn : Nat → Heap → Prop) (J : It) (H' : Hp), itv = .ref it ∧ Inv X pins σ H' s2 ∧ Turn X.prog X.w X.K tg J fp it tn ∧ tn 0 s2.heap ∧ (∀ b ∈ fp, FpOk X pins H' b) ∧ R J H'
def PI (X : Cx) (tg iter : Expr) (wi : TI) : Prop :=
  ∀ (pins : List (Addr × Obj)) (s : Shared) (σ : St) (H : Hp) (R : It → Hp → Prop), Inv X pins σ H s → wi σ H R →
    wpAny (model X.prog X.w) X.A (eval iter X.env) (fun v s1 => wpAny (model X.prog X.w) X.A (pyIter v) (PIE X pins σ tg R) X.xe s1) X.xe s

/-- the step ahead of the store is nothing for an iterator that keeps no tuple -/
theorem go_of {M : Model} {A : Around} {E : Value → Shared → Prop} {s : Shared} {tg : Expr} {it : Addr} {u : Value} {o : Obj} {n : String} {vs : Array Value} {Q : Unit → Shared → Prop} (ho : s.heap.get? it = some o) (hc : o.cls = .type n) (hd : o.data = .fields vs)
    (hn : ["enumerate", "zip", "dict_itemiterator", "dict_reverseitemiterator", "odict_iterator", "itertools.zip_longest", "itertools.pairwise"].contains n = false) (hQ : Q () s) : wpAny M A (letOwnedTupleGo tg (.ref it) u) Q E s := by
  unfold letOwnedTupleGo
  cases tg <;> first
    | exact wpAny_pure hQ
    | (cases u <;> first
        | exact wpAny_pure hQ
        | (refine wpAny_bind (wpAny_load ho ?_)
           rw [hc, hd]
           show wpAny M A (if (["enumerate", "zip", "dict_itemiterator", "dict_reverseitemiterator", "odict_iterator", "itertools.zip_longest", "itertools.pairwise"].contains n && vs[0]? == some (rawInt _)) = true then _ else _) Q E s
           rw [if_neg (by intro h; rw [hn, Bool.false_and] at h; cases h)]
           exact wpAny_pure hQ))

/-- the list at a, as it stands at each turn (a loop may append to it) -/
def Itl (K : PySem.W.Frag) (a : Addr) : It :=
  ⟨fun i H => ∃ xs x, SqL K H a xs ∧ xs[i]? = some x, fun i H x H' => H' = H ∧ ∀ xs, SqL K H a xs → xs[i]? = some x, fun i H => ∃ xs, SqL K H a xs ∧ xs.length ≤ i⟩
def Itt (K : PySem.W.Frag) (a : Addr) : It :=
  ⟨fun i H => ∃ xs x, SqT K H a xs ∧ xs[i]? = some x, fun i H x H' => H' = H ∧ ∀ xs, SqT K H a xs → xs[i]? = some x, fun i H => ∃ xs, SqT K H a xs ∧ xs.length ≤ i⟩
/-- lo, lo + 1, .. (n of them) -/
def Itr (lo : Int) (n : Nat) : It := ⟨fun i _ => i < n, fun i H x H' => H' = H ∧ x = .int (lo + i), fun i _ => n ≤ i⟩
theorem turn_list {P : Program} {w : World} {K : PySem.W.Frag} {tg : Expr} (a it : Addr) : Turn P w K tg (Itl K a) [it] it (fun i h => h.IsListIter it a i) where
  mem := by simp
  obj := fun i h st b hb => by
    have e : b = it := by simpa using hb
    subst e
    obtain ⟨o, e, c, d⟩ := st
    exact ⟨o, e, fun v z => by rw [d] at z; cases z⟩
  keep := fun i h h' st k => st.at fun o e => k it (by simp) o e
  item := by
    intro X hP hw hK hc i pins s σ H E I hf st hg
    subst hP hw hK
    obtain ⟨xs, x, hq, hx⟩ := hg
    obtain ⟨its, rv, p, hz⟩ := I.list hq
    obtain ⟨u, hu, ru⟩ := rv.get hx
    obtain ⟨f0, f1, f2, f3, f4, f5⟩ := hf it (by simp)
    refine wpAny_pyNext_list_item st p.isList (x := u) (by simpa using hu) fun h' st' sb => ?_
    have I1 : Inv X pins σ H { s with heap := h' } := I.turned (t' := s.toks) (fun b o hb e => (sb.2 b hb).trans e) f0 f1 f3 f4 f5
    obtain ⟨o, e, c, d⟩ := id st'
    exact ⟨u, rfl, go_of (s := { s with heap := h' }) e c d (by decide) ⟨x, H, I1, ru, ⟨rfl, fun ys hy => by rw [I.list_inj hy hq]; exact hx⟩, st', fun b hb => (hf b hb).1⟩⟩
  done := by
    intro X hP hw hK hc i pins s σ H E I hf st hg
    subst hP hw hK
    obtain ⟨xs, hq, hx⟩ := hg
    obtain ⟨its, rv, p, hz⟩ := I.list hq
    obtain ⟨f0, f1, f2, f3, f4, f5⟩ := hf it (by simp)
    have hl := rv.length
    exact wpAny_pyNext_list_end (I.ok.hd hc) st p.isList (by simp; omega) fun h' eb => ⟨rfl, I.turned (t' := s.toks) (fun b o hb e => eb b o hb e) f0 f1 f3 f4 f5⟩
  self := fun _ _ _ _ _ st h => wpAny_pyIter_listiter st h
theorem turn_tuple {P : Program} {w : World} {K : PySem.W.Frag} {tg : Expr} (a it : Addr) : Turn P w K tg (Itt K a) [it] it (fun i h => h.IsTupleIter it a i) where
  mem := by simp
  obj := fun i h st b hb => by
    have e : b = it := by simpa using hb
    subst e
    obtain ⟨o, e, c, d⟩ := st
    exact ⟨o, e, fun v z => by rw [d] at z; cases z⟩
  keep := fun i h h' st k => st.at fun o e => k it (by simp) o e
  item := by
    intro X hP hw hK hc i pins s σ H E I hf st hg
    subst hP hw hK
    obtain ⟨xs, x, hq, hx⟩ := hg
    obtain ⟨its, rv, p, hz⟩ := I.tuple hq
    obtain ⟨u, hu, ru⟩ := rv.get hx
    obtain ⟨f0, f1, f2, f3, f4, f5⟩ := hf it (by simp)
    refine wpAny_pyNext_tuple_item st (show s.heap.IsTuple a its.toArray from p) (x := u) (by simpa using hu) fun h' st' sb => ?_
    have I1 : Inv X pins σ H { s with heap := h' } := I.turned (t' := s.toks) (fun b o hb e => (sb.2 b hb).trans e) f0 f1 f3 f4 f5
    obtain ⟨o, e, c, d⟩ := id st'
    exact ⟨u, rfl, go_of (s := { s with heap := h' }) e c d (by decide) ⟨x, H, I1, ru, ⟨rfl, fun ys hy => by rw [I.tuple_inj hy hq]; exact hx⟩, st', fun b hb => (hf b hb).1⟩⟩
  done := by
    intro X hP hw hK hc i pins s σ H E I hf st hg
    subst hP hw hK
    obtain ⟨xs, hq, hx⟩ := hg
    obtain ⟨its, rv, p, hz⟩ := I.tuple hq
    obtain ⟨f0, f1, f2, f3, f4, f5⟩ := hf it (by simp)
    have hl := rv.length
    exact wpAny_pyNext_tuple_end (I.ok.hd hc) st (show s.heap.IsTuple a its.toArray from p) (by simp; omega) fun h' eb => ⟨rfl, I.turned (t' := s.toks) (fun b o hb e => eb b o hb e) f0 f1 f3 f4 f5⟩
  self := fun _ _ _ _ _ st h => wpAny_pyIter_tupleiter st h
theorem turn_range {P : Program} {w : World} {K : PySem.W.Frag} {tg : Expr} (it : Addr) (lo : Int) (n : Nat) : Turn P w K tg (Itr lo n) [it] it (fun i h => IsRangeIter h it (lo + (i : Nat) * 1) ((n : Int) - (i : Nat)) 1) where
  mem := by simp
  obj := fun i h st b hb => by
    have e : b = it := by simpa using hb
    subst e
    exact ⟨_, st, fun v z => by
      have z' : Data.fields _ = Data.cell v := z
      cases z'⟩
  keep := fun i h h' st k => k it (by simp) _ st
  item := by
    intro X hP hw hK hc i pins s σ H E I hf st hg
    subst hP hw hK
    obtain ⟨f0, f1, f2, f3, f4, f5⟩ := hf it (by simp)
    have W := Walks.range (prog := X.prog) (w := X.w) (I.ok.hd hc) it lo 1 n
    refine W.item i s _ _ hg st fun v h' tk hv st' kk => ?_
    obtain ⟨t, rfl⟩ := hv
    have I1 : Inv X pins σ H { s with heap := h', toks := tk } := I.turned (fun b o hb e => kk b o (by simpa using hb) e) f0 f1 f3 f4 f5
    refine ⟨_, rfl, go_of (s := { s with heap := h', toks := tk }) (n := "range_iterator") st' rfl rfl (by decide) ⟨.int (lo + i), H, I1, ⟨t, ?_⟩, ⟨rfl, rfl⟩, st', fun b hb => (hf b hb).1⟩⟩
    rw [Int.mul_one]
  done := by
    intro X hP hw hK hc i pins s σ H E I hf st hg
    subst hP hw hK
    obtain ⟨f0, f1, f2, f3, f4, f5⟩ := hf it (by simp)
    exact wpAny_pyNext_range_end (I.ok.hd hc) st (by have : n ≤ i := hg; omega) fun h' eb => ⟨rfl, I.turned (t' := s.toks) (fun b o hb e => eb b o hb e) f0 f1 f3 f4 f5⟩
  self := fun _ _ _ _ _ st h => wpAny_pyIter_rangeiter st h
end L2

namespace L2
open PySem PySem.Spec PyProof.Rows
section
variable {X : Cx} {tg : Expr}
def iList (K : PySem.W.Frag) (tl : TE) : TI := fun σ H R => tl σ H fun x H1 => ∃ a, x = .ref a ∧ (∃ xs, SqL K H1 a xs) ∧ R (Itl K a) H1
def iTup (K : PySem.W.Frag) (tl : TE) : TI := fun σ H R => tl σ H fun x H1 => ∃ a, x = .ref a ∧ (∃ xs, SqT K H1 a xs) ∧ R (Itt K a) H1
theorem pi_list {l : Expr} {tl : TE} (hl : PE X l tl) : PI X tg l (iList X.K tl) := by
  intro pins s σ H R I h
  refine thn (hl pins s σ H _ I h) fun v s1 ⟨x, H1, I1, r1, q1⟩ => ?_
  obtain ⟨a, e, ⟨xs, hq⟩, q⟩ := q1
  subst e
  cases r1
  obtain ⟨its, rv, p, hz⟩ := I1.list hq
  refine wpAny_pyIter_list p.isList ?_
  refine ⟨s1.heap.objs.size, [s1.heap.objs.size], _, _, H1, rfl, I1.kept (t' := s1.toks) fun b o e => Heap.get?_push_of_some _ e, turn_list a _, ⟨_, Heap.get?_push_size _ rfl, rfl, rfl⟩, fun b hb => ?_, q⟩
  have e : b = s1.heap.objs.size := by simpa using hb
  subst e
  exact I1.fpOk (Nat.le_refl _) (I1.hok.fresh (Nat.le_refl _))
theorem pi_tup {l : Expr} {tl : TE} (hl : PE X l tl) : PI X tg l (iTup X.K tl) := by
  intro pins s σ H R I h
  refine thn (hl pins s σ H _ I h) fun v s1 ⟨x, H1, I1, r1, q1⟩ => ?_
  obtain ⟨a, e, ⟨xs, hq⟩, q⟩ := q1
  subst e
  cases r1
  obtain ⟨its, rv, p, hz⟩ := I1.tuple hq
  refine wpAny_pyIter_tuple (show s1.heap.IsTuple a its.toArray from p) ?_
  refine ⟨s1.heap.objs.size, [s1.heap.objs.size], _, _, H1, rfl, I1.kept (t' := s1.toks) fun b o e => Heap.get?_push_of_some _ e, turn_tuple a _, ⟨_, Heap.get?_push_size _ rfl, rfl, rfl⟩, fun b hb => ?_, q⟩
  have e : b = s1.heap.objs.size := by simpa using hb
  subst e
  exact I1.fpOk (Nat.le_refl _) (I1.hok.fresh (Nat.le_refl _))
/-- a range object just made, walked -/
theorem range_it {pins : List (Addr × Obj)} {σ : St} {H : Hp} {s : Shared} {R : It → Hp → Prop} {E : Value → Shared → Prop} {lo hi : Int} {t u v : Tok} {tk : Nat} (I : Inv X pins σ H s) (h1 : -(2 ^ 62) ≤ lo) (h2 : lo < 2 ^ 62) (h3 : -(2 ^ 62) ≤ hi) (h4 : hi < 2 ^ 62)
    (q : R (Itr lo (hi - lo).toNat) H) : wpAny (model X.prog X.w) X.A (pyIter (.ref s.heap.objs.size)) (PIE X pins σ tg R) E { s with heap := s.heap.push { cls := .type "range", data := .fields #[.int lo t, .int hi u, .int 1 v] }, toks := tk } := by
  refine wpAny_pyIter_range (IsRange.new ..) (small_one h1 h2 h3 h4) ?_
  have I1 : Inv X pins σ H { s with heap := s.heap.push { cls := .type "range", data := .fields #[.int lo t, .int hi u, .int 1 v] }, toks := tk } := I.kept fun b o e => Heap.get?_push_of_some _ e
  refine ⟨(s.heap.push { cls := .type "range", data := .fields #[.int lo t, .int hi u, .int 1 v] }).objs.size, [(s.heap.push { cls := .type "range", data := .fields #[.int lo t, .int hi u, .int 1 v] }).objs.size], _, _, H, rfl,
    I1.kept (t' := tk) fun b o e => Heap.get?_push_of_some _ e, turn_range _ lo (hi - lo).toNat, ?_, fun b hb => ?_, q⟩
  · have e1 : lo + ((0 : Nat) : Int) * 1 = lo := by simp
    have e2 : (((hi - lo).toNat : Nat) : Int) - ((0 : Nat) : Int) = Builtin.Range.rangeSize lo hi 1 := by rw [rangeSize_one]; split <;> omega
    show IsRangeIter _ _ (lo + ((0 : Nat) : Int) * 1) ((((hi - lo).toNat : Nat) : Int) - ((0 : Nat) : Int)) 1
    rw [e1, e2]
    exact Heap.get?_push_size _ rfl
  · have e : b = (s.heap.push { cls := .type "range", data := .fields #[.int lo t, .int hi u, .int 1 v] }).objs.size := by simpa using hb
    subst e
    exact I1.fpOk (Nat.le_refl _) (I1.hok.fresh (Nat.le_refl _))
def iRng1 (ta : TA) : TI := fun σ H R => ta σ H fun vs H1 => ∃ j : Int, vs = [.int j] ∧ -(2 ^ 62) ≤ j ∧ j < 2 ^ 62 ∧ R (Itr 0 j.toNat) H1
theorem pi_range1 {a : Expr} {ta : TA} {p pos : Pos} (hg : Gl X "range") (hm : X.mg "range" = none) (ha : PA X [a] ta) (hs : starEach [a] X.env = [(false, eval a X.env)] := by rfl) : PI X tg (.Call (.Name "range" p) [a] [] pos) (iRng1 ta) := by
  intro pins s σ H R I h
  refine Call_ (ld_blt I hg hm boot_range (PyProof.Rows.callWith_type1 (thn (ha pos pins s σ H _ I h) fun us s1 ⟨vs, H1, I1, r1, q1⟩ => ?_) hs rfl))
  obtain ⟨j, e, q1, q2, q⟩ := q1
  subst e
  cases r1 with
  | cons r rr =>
    cases rr
    obtain ⟨t, rfl⟩ := r
    exact call_range_1 (range_it I1 (by omega) (by omega) q1 q2 (by simpa using q))
/-! ### for -/
/-- W: the invariant by the turn and a measure; N: what the body is to reach -/
def tFor (wi : TI) (g : TG) (tb : TS) : TS := fun D σ H => wi σ H fun J H1 => ∃ W : Nat → Nat → St → Hp → Prop, (∃ m, W 0 m σ H1) ∧ ∀ i m σ H, W i m σ H →
  (J.stop i H ∧ D.nx σ H) ∨ (J.go i H ∧ ∃ N : St → Hp → Prop, (∀ σ' H', N σ' H' → ∃ m', m' < m ∧ W (i + 1) m' σ' H') ∧ ∀ x H', J.yld i H x H' → g x σ H' fun σ2 H2 => tb { D with nx := N, ct := N, bk := D.nx } σ2 H2)
/-- the records at fp as they stand -/
def pinsAt (fp : List Addr) (h : Heap) : List (Addr × Obj) := fp.filterMap fun b => (h.get? b).map fun o => (b, o)
theorem mem_pinsAt {fp : List Addr} {h : Heap} {b : Addr} {o : Obj} (hb : b ∈ fp) (e : h.get? b = some o) : (b, o) ∈ pinsAt fp h := List.mem_filterMap.mpr ⟨b, hb, by rw [e]; rfl⟩
theorem of_pinsAt {fp : List Addr} {h : Heap} {p : Addr × Obj} (hp : p ∈ pinsAt fp h) : p.1 ∈ fp ∧ h.get? p.1 = some p.2 := by
  obtain ⟨b, hb, e⟩ := List.mem_filterMap.mp hp
  cases q : h.get? b with
  | none => rw [q] at e; cases e
  | some o =>
    rw [q] at e
    have e' : (b, o) = p := Option.some.inj e
    subst e'
    exact ⟨hb, q⟩
theorem Inv.pinned {pins : List (Addr × Obj)} {σ : St} {H : Hp} {s : Shared} {fp : List Addr} (I : Inv X pins σ H s) (hf : ∀ b ∈ fp, FpOk X pins H b) (ho : ∀ b ∈ fp, ∃ o, s.heap.get? b = some o ∧ ∀ v, o.data ≠ .cell v) : Inv X (pins ++ pinsAt fp s.heap) σ H s :=
  I.pins_of fun p hp => (List.mem_append.mp hp).elim (fun z => I.pin p (List.mem_append_right _ z)) fun z => by
    obtain ⟨hb, e⟩ := of_pinsAt z
    obtain ⟨f0, f1, f2, _⟩ := hf p.1 hb
    obtain ⟨o, e', d⟩ := ho p.1 hb
    rw [e] at e'; cases e'
    exact ⟨e, f0, f1, f2, d⟩
theorem Inv.unpinned {pins pl : List (Addr × Obj)} {σ : St} {H : Hp} {s : Shared} (I : Inv X (pins ++ pl) σ H s) : Inv X pins σ H s := I.pins_of fun p hp => I.pin p (List.mem_append_right _ (List.mem_append_left _ hp))
theorem ps_for {iter : Expr} {body : List Stmt} {wi : TI} {g : TG} {tb : TS} {pos : Pos} (hp : PassesOwn (model X.prog X.w) X.A X.env X.xe) (hc : X.calm = true) (hi : PI X tg iter wi) (hg : PG X tg g) (hb : PSs X body tb)
    (hs : ∀ x, foldedSetIterable iter X.env x = pure x := by intro _; rfl) : PS X (.For tg iter body [] pos) (tFor wi g tb) := by
  intro pins s σ H D I h
  refine wpAny_For (thn (hi pins s σ H _ I h) fun v s1 h1 => thn h1 fun itv s2 h2 => ?_) hs
  obtain ⟨it, fp, tn, J, H2, e, I2, T, st2, f2, W, ⟨m0, w0⟩, turn⟩ := h2
  subst e
  -- what stays true of the iterator's objects through the loop
  have stat : ∀ {H' : Hp}, (∀ b ∈ fp, H' b = none) → ∀ b ∈ fp, FpOk X pins H' b := fun hn b hb => ⟨hn b hb, (f2 b hb).2⟩
  refine codeAny_forLoop_any (fun n s' => ∃ i σ' H', Inv X pins σ' H' s' ∧ tn i s'.heap ∧ (∀ b ∈ fp, H' b = none) ∧ W i n σ' H') ?_ m0 ⟨0, σ, H2, I2, st2, fun b hb => (f2 b hb).1, w0⟩
  rintro n s3 ⟨i, σ3, H3, I3, st3, fr3, w3⟩
  rcases turn i n σ3 H3 w3 with ⟨stop, qn⟩ | ⟨go, N, hN, step⟩
  · refine wpAny_passesOwn hp (thn (T.done X rfl rfl rfl hc i pins s3 σ3 H3 X.xe I3 (stat fr3) st3 stop) fun r s4 ⟨hr, I4⟩ => ?_)
    subst hr
    exact wpAny_execs_nil ⟨σ3, H3, I4, qn⟩
  · refine wpAny_passesOwn hp (thn (T.item X rfl rfl rfl hc i pins s3 σ3 H3 X.xe I3 (stat fr3) st3 go) fun r s4 ⟨u, hr, h4⟩ => ?_)
    subst hr
    refine wpAny_passesOwn hp (thn h4 fun _ s5 ⟨x, H5, I5, r5, y5, st5, fr5⟩ => ?_)
    have I5' := I5.pinned (stat fr5) (T.obj _ _ st5)
    refine wpAny_passesOwn hp (thn (hg _ s5 σ3 H5 x u _ I5' r5 (step x H5 y5)) fun _ s6 ⟨σ6, H6, I6, q6⟩ => ?_)
    refine wpAny_passesOwn hp (thn (hb _ s6 σ6 H6 _ I6 q6) fun f s7 q7 => ?_)
    have again : ∀ {σ7 : St} {H7 : Hp}, Inv X (pins ++ pinsAt fp s5.heap) σ7 H7 s7 → N σ7 H7 → ∃ m, m < n ∧ ∃ i σ' H', Inv X pins σ' H' s7 ∧ tn i s7.heap ∧ (∀ b ∈ fp, H' b = none) ∧ W i m σ' H' := fun {σ7 H7} I7 n7 => by
      obtain ⟨m', hm, w7⟩ := hN σ7 H7 n7
      refine ⟨m', hm, i + 1, σ7, H7, I7.unpinned, T.keep _ _ _ st5 fun b hb o e => (I7.pin (b, o) (List.mem_append_right _ (List.mem_append_right _ (mem_pinsAt hb e)))).1, fun b hb => ?_, w7⟩
      obtain ⟨o, e, d⟩ := T.obj _ _ st5 b hb
      exact (I7.pin (b, o) (List.mem_append_right _ (List.mem_append_right _ (mem_pinsAt hb e)))).2.1
    cases f with
    | next => obtain ⟨σ7, H7, I7, n7⟩ := q7; exact again I7 n7
    | cont => obtain ⟨σ7, H7, I7, n7⟩ := q7; exact again I7 n7
    | brk => obtain ⟨σ7, H7, I7, q7⟩ := q7; exact ⟨σ7, H7, I7.unpinned, q7⟩
    | ret v => obtain ⟨x7, σ7, H7, I7, r7, q7⟩ := q7; exact ⟨x7, σ7, H7, I7.unpinned, r7, q7⟩
end

/-! ### the forms one uses -/
/-- over a list that the body leaves as it is -/
theorem for_list {K : PySem.W.Frag} {a : Addr} {xs : List V} {g : TG} {tb : TS} {D : Ends} {σ : St} {H : Hp} (Pv : Nat → St → Hp → Prop) (h0 : Pv 0 σ H) (hl : ∀ i σ H, i ≤ xs.length → Pv i σ H → SqL K H a xs)
    (hs : ∀ i x σ H, xs[i]? = some x → Pv i σ H → g x σ H fun σ2 H2 => tb { D with nx := Pv (i + 1), ct := Pv (i + 1), bk := D.nx } σ2 H2) (hd : ∀ σ H, Pv xs.length σ H → D.nx σ H) :
    ∃ W : Nat → Nat → St → Hp → Prop, (∃ m, W 0 m σ H) ∧ ∀ i m σ H, W i m σ H →
      ((Itl K a).stop i H ∧ D.nx σ H) ∨ ((Itl K a).go i H ∧ ∃ N : St → Hp → Prop, (∀ σ' H', N σ' H' → ∃ m', m' < m ∧ W (i + 1) m' σ' H') ∧ ∀ x H', (Itl K a).yld i H x H' → g x σ H' fun σ2 H2 => tb { D with nx := N, ct := N, bk := D.nx } σ2 H2) := by
  refine ⟨fun i m σ H => m = xs.length - i ∧ i ≤ xs.length ∧ Pv i σ H, ⟨xs.length, by simp, Nat.zero_le _, h0⟩, ?_⟩
  rintro i m σ H ⟨rfl, hi, p⟩
  have q := hl i σ H hi p
  by_cases hlt : i < xs.length
  · refine .inr ⟨⟨xs, xs[i], q, by simp [hlt]⟩, Pv (i + 1), fun σ' H' p' => ⟨xs.length - (i + 1), by omega, rfl, hlt, p'⟩, fun x H' y => ?_⟩
    obtain ⟨e, y⟩ := y
    subst e
    exact hs i x σ _ (y xs q) p
  · have e : i = xs.length := by omega
    subst e
    exact .inl ⟨⟨xs, q, Nat.le_refl _⟩, hd σ H p⟩
theorem for_tup {K : PySem.W.Frag} {a : Addr} {xs : List V} {g : TG} {tb : TS} {D : Ends} {σ : St} {H : Hp} (Pv : Nat → St → Hp → Prop) (h0 : Pv 0 σ H) (hl : ∀ i σ H, i ≤ xs.length → Pv i σ H → SqT K H a xs)
    (hs : ∀ i x σ H, xs[i]? = some x → Pv i σ H → g x σ H fun σ2 H2 => tb { D with nx := Pv (i + 1), ct := Pv (i + 1), bk := D.nx } σ2 H2) (hd : ∀ σ H, Pv xs.length σ H → D.nx σ H) :
    ∃ W : Nat → Nat → St → Hp → Prop, (∃ m, W 0 m σ H) ∧ ∀ i m σ H, W i m σ H →
      ((Itt K a).stop i H ∧ D.nx σ H) ∨ ((Itt K a).go i H ∧ ∃ N : St → Hp → Prop, (∀ σ' H', N σ' H' → ∃ m', m' < m ∧ W (i + 1) m' σ' H') ∧ ∀ x H', (Itt K a).yld i H x H' → g x σ H' fun σ2 H2 => tb { D with nx := N, ct := N, bk := D.nx } σ2 H2) := by
  refine ⟨fun i m σ H => m = xs.length - i ∧ i ≤ xs.length ∧ Pv i σ H, ⟨xs.length, by simp, Nat.zero_le _, h0⟩, ?_⟩
  rintro i m σ H ⟨rfl, hi, p⟩
  have q := hl i σ H hi p
  by_cases hlt : i < xs.length
  · refine .inr ⟨⟨xs, xs[i], q, by simp [hlt]⟩, Pv (i + 1), fun σ' H' p' => ⟨xs.length - (i + 1), by omega, rfl, hlt, p'⟩, fun x H' y => ?_⟩
    obtain ⟨e, y⟩ := y
    subst e
    exact hs i x σ _ (y xs q) p
  · have e : i = xs.length := by omega
    subst e
    exact .inl ⟨⟨xs, q, Nat.le_refl _⟩, hd σ H p⟩
theorem for_range {lo : Int} {n : Nat} {g : TG} {tb : TS} {D : Ends} {σ : St} {H : Hp} (Pv : Nat → St → Hp → Prop) (h0 : Pv 0 σ H)
    (hs : ∀ i σ H, i < n → Pv i σ H → g (.int (lo + i)) σ H fun σ2 H2 => tb { D with nx := Pv (i + 1), ct := Pv (i + 1), bk := D.nx } σ2 H2) (hd : ∀ σ H, Pv n σ H → D.nx σ H) :
    ∃ W : Nat → Nat → St → Hp → Prop, (∃ m, W 0 m σ H) ∧ ∀ i m σ H, W i m σ H →
      ((Itr lo n).stop i H ∧ D.nx σ H) ∨ ((Itr lo n).go i H ∧ ∃ N : St → Hp → Prop, (∀ σ' H', N σ' H' → ∃ m', m' < m ∧ W (i + 1) m' σ' H') ∧ ∀ x H', (Itr lo n).yld i H x H' → g x σ H' fun σ2 H2 => tb { D with nx := N, ct := N, bk := D.nx } σ2 H2) := by
  refine ⟨fun i m σ H => m = n - i ∧ i ≤ n ∧ Pv i σ H, ⟨n, by simp, Nat.zero_le _, h0⟩, ?_⟩
  rintro i m σ H ⟨rfl, hi, p⟩
  by_cases hlt : i < n
  · refine .inr ⟨hlt, Pv (i + 1), fun σ' H' p' => ⟨n - (i + 1), by omega, rfl, hlt, p'⟩, fun x H' y => ?_⟩
    obtain ⟨e, y⟩ := y
    subst e y
    exact hs i σ _ hlt p
  · have e : i = n := by omega
    subst e
    exact .inl ⟨Nat.le_refl _, hd σ H p⟩
end L2

namespace L2
open PySem PySem.Spec PyProof.Rows

abbrev R2 := V → V → Hp → VK → Prop
/-- a two-place operation on values: f is binaryOp op, inplaceOp op or compareOp op -/
def OpR (X : Cx) (f : Value → Value → Sem Value) (r : R2) : Prop :=
  ∀ (pins : List (Addr × Obj)) (s : Shared) (σ : St) (H : Hp) (x y : V) (v u : Value) (Q : VK), Inv X pins σ H s → RelV x v → RelV y u → r x y H Q →
    wpAny (model X.prog X.w) X.A (f v u) (EP X pins σ Q) X.xe s
/-- a one-place operation -/
def UnR (X : Cx) (f : Value → Sem Value) (r : V → Hp → VK → Prop) : Prop :=
  ∀ (pins : List (Addr × Obj)) (s : Shared) (σ : St) (H : Hp) (x : V) (v : Value) (Q : VK), Inv X pins σ H s → RelV x v → r x H Q →
    wpAny (model X.prog X.w) X.A (f v) (EP X pins σ Q) X.xe s
/-- a call of a value that is known (a builtin, a type) with values -/
def CallR (X : Cx) (f : Value) (r : List V → Hp → VK → Prop) : Prop :=
  ∀ (pins : List (Addr × Obj)) (s : Shared) (σ : St) (H : Hp) (xs : List V) (us : List Value) (Q : VK), Inv X pins σ H s → Vals xs us → r xs H Q →
    wpAny (model X.prog X.w) X.A (call f us) (EP X pins σ Q) X.xe s
def tOp (r : R2) (ta tb : TE) : TE := fun σ H Q => ta σ H fun x H1 => tb σ H1 fun y H2 => r x y H2 Q
def tUn (r : V → Hp → VK → Prop) (ta : TE) : TE := fun σ H Q => ta σ H fun x H1 => r x H1 Q
/-- ints in, under C, and a value out -/
def rI (C : Int → Int → Prop) (g : Int → Int → V) : R2 := fun x y H Q => ∃ i j, x = .int i ∧ y = .int j ∧ C i j ∧ Q (g i j) H
def rI0 (g : Int → Int → V) : R2 := fun x y H Q => ∃ i j, x = .int i ∧ y = .int j ∧ Q (g i j) H
def rU (g : Int → V) : V → Hp → VK → Prop := fun x H Q => ∃ i, x = .int i ∧ Q (g i) H

section
variable {X : Cx} {a b c : Expr} {ta tb tc : TE} {pos : Pos}

theorem binT (ha : PE X a ta) (hb : PE X b tb) {pins : List (Addr × Obj)} {s : Shared} {σ : St} {H : Hp} {R : V → V → Hp → Prop} (I : Inv X pins σ H s)
    (h : ta σ H fun x H1 => tb σ H1 fun y H2 => R x y H2) {Q : Value → Shared → Prop} {f : Value → Value → Sem Value}
    (hf : ∀ v u s2 x y H2, Inv X pins σ H2 s2 → RelV x v → RelV y u → R x y H2 → wpAny (model X.prog X.w) X.A (f v u) Q X.xe s2) :
    wpAny (model X.prog X.w) X.A (eval a X.env) (fun v s₁ => wpAny (model X.prog X.w) X.A (eval b X.env) (fun u s₂ => wpAny (model X.prog X.w) X.A (f v u) Q X.xe s₂) X.xe s₁) X.xe s := by
  refine thn (ha pins s σ H _ I h) fun v s1 ⟨x, H1, I1, r1, q1⟩ => ?_
  refine thn (hb pins s1 σ H1 _ I1 q1) fun u s2 ⟨y, H2, I2, r2, q2⟩ => ?_
  exact hf v u s2 x y H2 I2 r1 r2 q2

theorem pe_op {op : Operator} {r : R2} (ho : OpR X (binaryOp op) r) (ha : PE X a ta) (hb : PE X b tb) : PE X (.BinOp a op b pos) (tOp r ta tb) := by
  intro pins s σ H Q I h
  exact wpAny_BinOp (binT ha hb I h fun v u s2 x y H2 I2 rx ry q => ho pins s2 σ H2 x y v u Q I2 rx ry q)
theorem pe_un {op : UnaryOp} {r : V → Hp → VK → Prop} (ho : UnR X (unaryOp op) r) (ha : PE X a ta) : PE X (.UnaryOp op a pos) (tUn r ta) := by
  intro pins s σ H Q I h
  exact UnaryOp_ (thn (ha pins s σ H _ I h) fun v s1 ⟨x, H1, I1, r1, q1⟩ => ho pins s1 σ H1 x v Q I1 r1 q1)
/-! ### ints -/
theorem opI {f : Value → Value → Sem Value} {C : Int → Int → Prop} {g : Int → Int → Int}
    (rule : ∀ (i j : Int) (t u : Tok) (s : Shared) (Q : Value → Shared → Prop) (E : Value → Shared → Prop), C i j → Q (.int (g i j) s.toks) { s with toks := s.toks + 1 } → wpAny (model X.prog X.w) X.A (f (.int i t) (.int j u)) Q E s) :
    OpR X f (rI C fun i j => .int (g i j)) := by
  intro pins s σ H x y v u Q I rx ry h
  obtain ⟨i, j, rfl, rfl, hc, q⟩ := h
  obtain ⟨t, rfl⟩ := rx
  obtain ⟨t', rfl⟩ := ry
  exact rule i j t t' s _ _ hc ⟨.int (g i j), H, I.tok _, ⟨_, rfl⟩, q⟩
theorem opI0 {f : Value → Value → Sem Value} {g : Int → Int → Int}
    (rule : ∀ (i j : Int) (t u : Tok) (s : Shared) (Q : Value → Shared → Prop) (E : Value → Shared → Prop), Q (.int (g i j) s.toks) { s with toks := s.toks + 1 } → wpAny (model X.prog X.w) X.A (f (.int i t) (.int j u)) Q E s) :
    OpR X f (rI0 fun i j => .int (g i j)) := by
  intro pins s σ H x y v u Q I rx ry h
  obtain ⟨i, j, rfl, rfl, q⟩ := h
  obtain ⟨t, rfl⟩ := rx
  obtain ⟨t', rfl⟩ := ry
  exact rule i j t t' s _ _ ⟨.int (g i j), H, I.tok _, ⟨_, rfl⟩, q⟩
theorem opB0 {f : Value → Value → Sem Value} {g : Int → Int → Bool}
    (rule : ∀ (i j : Int) (t u : Tok) (s : Shared) (Q : Value → Shared → Prop) (E : Value → Shared → Prop), Q (.bool (g i j)) s → wpAny (model X.prog X.w) X.A (f (.int i t) (.int j u)) Q E s) :
    OpR X f (rI0 fun i j => .bl (g i j)) := by
  intro pins s σ H x y v u Q I rx ry h
  obtain ⟨i, j, rfl, rfl, q⟩ := h
  obtain ⟨t, rfl⟩ := rx
  obtain ⟨t', rfl⟩ := ry
  exact rule i j t t' s _ _ ⟨.bl (g i j), H, I, rfl, q⟩

def CDiv (i j : Int) : Prop := 0 < j ∧ j < 1073741824
def CPow (i j : Int) : Prop := 0 ≤ j ∧ j ≤ 1000000 ∧ i.natAbs < 2 ^ 64
def CMul (i j : Int) : Prop := (-(2 ^ 64) < i ∧ i < 2 ^ 64) ∨ (-(2 ^ 64) < j ∧ j < 2 ^ 64)
theorem CMul.ok {i j : Int} (h : CMul i j) : IntMulOk i j := by
  rcases h with ⟨h1, h2⟩ | ⟨h1, h2⟩
  · exact .of_left (intBits_le_64 h1 h2)
  · exact .of_right (intBits_le_64 h1 h2)
theorem op_add : OpR X (binaryOp .Add) (rI0 fun i j => .int (i + j)) := opI0 fun _ _ _ _ _ _ _ q => add_int q
theorem op_sub : OpR X (binaryOp .Sub) (rI0 fun i j => .int (i - j)) := opI0 fun _ _ _ _ _ _ _ q => sub_int q
theorem op_mul : OpR X (binaryOp .Mult) (rI CMul fun i j => .int (i * j)) := opI fun _ _ _ _ _ _ _ hc q => mul_int q hc.ok
/-- // by a positive divisor -/
theorem op_fdiv : OpR X (binaryOp .FloorDiv) (rI CDiv fun i j => .int (i / j)) := opI fun i j _ _ _ _ _ hc q => by
  have h1 : (0 : Int) < j := hc.1
  have h2 : j < 1073741824 := hc.2
  exact floordiv_int (by omega) (by rw [Int.fdiv_eq_ediv_of_nonneg i (by omega)]; exact q) (.inl (PyProof.noPylong_small (by omega)))
/-- % by a positive divisor of any size -/
theorem op_mod : OpR X (binaryOp .Mod) (rI (fun _ j => 0 < j) fun i j => .int (i % j)) := opI fun i j _ _ _ _ _ hc q => by
  have h1 : (0 : Int) < j := hc
  exact mod_int' (by omega) (by rw [Int.fmod_eq_emod_of_nonneg i (by omega)]; exact q)
theorem op_pow : OpR X (binaryOp .Pow) (rI CPow fun i j => .int (i ^ j.toNat)) := opI fun _ _ _ _ _ _ _ hc q => pow_int_small hc.1 hc.2.1 hc.2.2 q
theorem op_shl : OpR X (binaryOp .LShift) (rI CPow fun i j => .int (i * 2 ^ j.toNat)) := opI fun _ _ _ _ _ _ _ hc q => lshift_int_small hc.1 hc.2.1 hc.2.2 q
theorem unI {f : Value → Sem Value} {g : Int → Int}
    (rule : ∀ (i : Int) (t : Tok) (s : Shared) (Q : Value → Shared → Prop) (E : Value → Shared → Prop), Q (.int (g i) s.toks) { s with toks := s.toks + 1 } → wpAny (model X.prog X.w) X.A (f (.int i t)) Q E s) :
    UnR X f (rU fun i => .int (g i)) := by
  intro pins s σ H x v Q I rx h
  obtain ⟨i, rfl, q⟩ := h
  obtain ⟨t, rfl⟩ := rx
  exact rule i t s _ _ ⟨.int (g i), H, I.tok _, ⟨_, rfl⟩, q⟩
theorem un_neg : UnR X (unaryOp .USub) (rU fun i => .int (-i)) := unI fun _ _ _ _ _ q => neg_int q
/-! ### bools among ints: n += (a < b) -/
end

/-! ### comparisons -/
/-- the scalars that == tells apart as data does -/
def scal : V → V → Bool
  | .non, .non => true | .non, .int _ => true | .int _, .non => true | .non, .bl _ => true | .bl _, .non => true | .non, .str _ => true | .str _, .non => true
  | .int _, .int _ => true | .bl _, .bl _ => true | .str _, .str _ => true | .byt _, .byt _ => true
  | .int _, .str _ => true | .str _, .int _ => true | .bl _, .str _ => true | .str _, .bl _ => true
  | _, _ => false
def rEq : R2 := fun x y H Q => scal x y = true ∧ Q (.bl (decide (x = y))) H
def rNe : R2 := fun x y H Q => scal x y = true ∧ Q (.bl (!decide (x = y))) H

theorem dec_int {i j : Int} : decide (V.int i = V.int j) = (i == j) := by
  rw [Bool.eq_iff_iff]
  simp
theorem dec_bl {i j : Bool} : decide (V.bl i = V.bl j) = (i == j) := by
  rw [Bool.eq_iff_iff]
  simp
theorem dec_str {i j : Str} : decide (V.str i = V.str j) = (i == j) := by
  rw [Bool.eq_iff_iff]
  simp
theorem dec_byt {i j : Array UInt8} : decide (V.byt i = V.byt j) = (i.toList == j.toList) := by
  rw [Bool.eq_iff_iff]
  cases i
  cases j
  simp

section
variable {X : Cx} {a b c : Expr} {ta tb tc : TE} {pos : Pos}
theorem fin_bl {pins : List (Addr × Obj)} {σ : St} {H : Hp} {s : Shared} {Q : VK} {k k' : Bool} (I : Inv X pins σ H s) (q : Q (.bl k) H) (e : k = k') : EP X pins σ Q (.bool k') s := by
  subst e
  exact ⟨.bl k, H, I, rfl, q⟩
theorem op_eq : OpR X (compareOp .Eq) rEq := by
  intro pins s σ H x y v u Q I rx ry h
  obtain ⟨hs, q⟩ := h
  cases x with
  | non =>
    cases rx
    cases y with
    | non => cases ry; exact PySem.EqNone.eq_none_none (fin_bl I q (by simp))
    | bl j => cases ry; exact PySem.EqNone.eq_none_bool (fin_bl I q (by simp))
    | int j => obtain ⟨t', rfl⟩ := ry; exact PySem.EqNone.eq_none_int (fin_bl I q (by simp))
    | str j => obtain ⟨t', rfl⟩ := ry; exact PySem.EqNone.eq_none_str (fin_bl I q (by simp))
    | _ => exact absurd (show false = true from hs) Bool.false_ne_true
  | bl i =>
    cases rx
    cases y with
    | non => cases ry; exact PySem.EqNone.eq_bool_none (fin_bl I q (by simp))
    | bl j => cases ry; exact eq_bool (fin_bl I q dec_bl)
    | str j => obtain ⟨t', rfl⟩ := ry; exact PySem.EqMixed.eq_bool_str (fin_bl I q (by simp))
    | _ => exact absurd (show false = true from hs) Bool.false_ne_true
  | int i =>
    obtain ⟨t, rfl⟩ := rx
    cases y with
    | non => cases ry; exact PySem.EqNone.eq_int_none (fin_bl I q (by simp))
    | int j => obtain ⟨t', rfl⟩ := ry; exact eq_int (fin_bl I q dec_int)
    | str j => obtain ⟨t', rfl⟩ := ry; exact PySem.EqMixed.eq_int_str (fin_bl I q (by simp))
    | _ => exact absurd (show false = true from hs) Bool.false_ne_true
  | str i =>
    obtain ⟨t, rfl⟩ := rx
    cases y with
    | non => cases ry; exact PySem.EqNone.eq_str_none (fin_bl I q (by simp))
    | bl j => cases ry; exact PySem.EqMixed.eq_str_bool (fin_bl I q (by simp))
    | int j => obtain ⟨t', rfl⟩ := ry; exact PySem.EqMixed.eq_str_int (fin_bl I q (by simp))
    | str j => obtain ⟨t', rfl⟩ := ry; exact eq_str (fin_bl I q dec_str)
    | _ => exact absurd (show false = true from hs) Bool.false_ne_true
  | byt i =>
    obtain ⟨t, rfl⟩ := rx
    cases y with
    | byt j => obtain ⟨t', rfl⟩ := ry; exact PySem.W.eq_bytes (fin_bl I q dec_byt)
    | _ => exact absurd (show false = true from hs) Bool.false_ne_true
  | _ => cases y <;> exact absurd (show false = true from hs) Bool.false_ne_true
theorem op_ne : OpR X (compareOp .NotEq) rNe := by
  intro pins s σ H x y v u Q I rx ry h
  obtain ⟨hs, q⟩ := h
  cases x with
  | non =>
    cases rx
    cases y with
    | non => cases ry; exact PySem.EqNone.ne_none_none (fin_bl I q (by simp))
    | bl j => cases ry; exact PySem.EqNone.ne_none_bool (fin_bl I q (by simp))
    | int j => obtain ⟨t', rfl⟩ := ry; exact PySem.EqNone.ne_none_int (fin_bl I q (by simp))
    | str j => obtain ⟨t', rfl⟩ := ry; exact PySem.EqNone.ne_none_str (fin_bl I q (by simp))
    | _ => exact absurd (show false = true from hs) Bool.false_ne_true
  | bl i =>
    cases rx
    cases y with
    | non => cases ry; exact PySem.EqNone.ne_bool_none (fin_bl I q (by simp))
    | bl j => cases ry; exact ne_bool (fin_bl I q (congrArg not dec_bl))
    | str j => obtain ⟨t', rfl⟩ := ry; exact PySem.EqMixed.ne_bool_str (fin_bl I q (by simp))
    | _ => exact absurd (show false = true from hs) Bool.false_ne_true
  | int i =>
    obtain ⟨t, rfl⟩ := rx
    cases y with
    | non => cases ry; exact PySem.EqNone.ne_int_none (fin_bl I q (by simp))
    | int j => obtain ⟨t', rfl⟩ := ry; exact ne_int (fin_bl I q (congrArg not dec_int))
    | str j => obtain ⟨t', rfl⟩ := ry; exact PySem.EqMixed.ne_int_str (fin_bl I q (by simp))
    | _ => exact absurd (show false = true from hs) Bool.false_ne_true
  | str i =>
    obtain ⟨t, rfl⟩ := rx
    cases y with
    | non => cases ry; exact PySem.EqNone.ne_str_none (fin_bl I q (by simp))
    | bl j => cases ry; exact PySem.EqMixed.ne_str_bool (fin_bl I q (by simp))
    | int j => obtain ⟨t', rfl⟩ := ry; exact PySem.EqMixed.ne_str_int (fin_bl I q (by simp))
    | str j => obtain ⟨t', rfl⟩ := ry; exact ne_str (fin_bl I q (congrArg not dec_str))
    | _ => exact absurd (show false = true from hs) Bool.false_ne_true
  | byt i =>
    obtain ⟨t, rfl⟩ := rx
    cases y with
    | byt j => obtain ⟨t', rfl⟩ := ry; exact PySem.W.ne_bytes (fin_bl I q (congrArg not dec_byt))
    | _ => exact absurd (show false = true from hs) Bool.false_ne_true
  | _ => cases y <;> exact absurd (show false = true from hs) Bool.false_ne_true

theorem op_lt : OpR X (compareOp .Lt) (rI0 fun i j => .bl (decide (i < j))) := opB0 fun _ _ _ _ _ _ _ q => lt_int q
theorem op_le : OpR X (compareOp .LtE) (rI0 fun i j => .bl (decide (i ≤ j))) := opB0 fun _ _ _ _ _ _ _ q => le_int q
theorem op_gt : OpR X (compareOp .Gt) (rI0 fun i j => .bl (decide (j < i))) := opB0 fun _ _ _ _ _ _ _ q => gt_int q
theorem op_ge : OpR X (compareOp .GtE) (rI0 fun i j => .bl (decide (j ≤ i))) := opB0 fun _ _ _ _ _ _ _ q => ge_int q
theorem op_notN : OpR X (compareOp .IsNot) (fun x y H Q => y = .non ∧ Q (.bl (!decide (x = .non))) H) := by
  intro pins s σ H x y v u Q I rx ry h
  obtain ⟨rfl, q⟩ := h
  cases ry
  refine isnot_none_gen (fin_bl I q ?_)
  cases x <;> first
    | (cases rx; rfl)
    | (obtain ⟨t, rfl⟩ := rx; rfl)

theorem nomark (b : Expr) {op : CmpOp} (h : op ≠ .In := by decide) (h2 : op ≠ .NotIn := by decide) : behindInMarks op b = false := by
  have e1 : (op == CmpOp.In) = false := by cases op <;> first | rfl | exact absurd rfl h
  have e2 : (op == CmpOp.NotIn) = false := by cases op <;> first | rfl | exact absurd rfl h2
  cases b <;> simp [behindInMarks, e1, e2]
/-- a comparison as a value; hm: nomark b, or (for in, not in) by with_unfolding_all rfl -/
theorem pe_cmpR {op : CmpOp} {r : R2} (ho : OpR X (compareOp op) r) (ha : PE X a ta) (hb : PE X b tb) (hm : behindInMarks op b = false) : PE X (.Compare a [op] [b] pos) (tOp r ta tb) := by
  intro pins s σ H Q I h
  exact wpAny_Compare1 (binT ha hb I h fun v u s2 x y H2 I2 rx ry q => ho pins s2 σ H2 x y v u Q I2 rx ry q) hm
/-- a reading of a value as a test -/
def tTest (t : TE) : TT := fun σ H Q => t σ H fun x H' => ∃ k, x = .bl k ∧ Q k H'
theorem pt_cmpR {op : CmpOp} {r : R2} (ho : OpR X (compareOp op) r) (ha : PE X a ta) (hb : PE X b tb) (hm : behindInMarks op b = false) : PT X (.Compare a [op] [b] pos) (tTest (tOp r ta tb)) := by
  intro pins s σ H Q I h
  refine wpAny_isTrue_Compare1 (thn (ha pins s σ H _ I h) fun v s1 ⟨x, H1, I1, r1, q1⟩ => thn (hb pins s1 σ H1 _ I1 q1) fun u s2 ⟨y, H2, I2, r2, q2⟩ =>
    thn (ho pins s2 σ H2 x y v u _ I2 r1 r2 q2) fun c s3 ⟨z, H3, I3, r3, k, e, q3⟩ => ?_) hm
  subst e
  cases r3
  exact wpAny_truthy_bool ⟨H3, I3, q3⟩
/-! ### truth -/
theorem line63 : (sizeLine : Nat) < 2 ^ 63 := by rw [sizeLine_eq]; decide
/-! ### strs and bytes -/
/-! ### scalar builtins, by CallR -/
theorem vals1 {x : V} {us : List Value} (r : Vals [x] us) : ∃ u, us = [u] ∧ RelV x u := by
  cases r with
  | cons r1 r2 => cases r2; exact ⟨_, rfl, r1⟩
theorem vals2 {x y : V} {us : List Value} (r : Vals [x, y] us) : ∃ u w', us = [u, w'] ∧ RelV x u ∧ RelV y w' := by
  cases r with
  | cons r1 r2 =>
    cases r2 with
    | cons r3 r4 => cases r4; exact ⟨_, _, rfl, r1, r3⟩
theorem call_max2 (hc : X.calm = true) : CallR X (.builtin "max") (fun xs H Q => ∃ i j, xs = [.int i, .int j] ∧ Q (.int (if j > i then j else i)) H) := by
  intro pins s σ H xs us Q I r h
  obtain ⟨i, j, rfl, q⟩ := h
  obtain ⟨u, w', rfl, ⟨t, rfl⟩, ⟨t', rfl⟩⟩ := vals2 r
  refine max_two_ints (I.ok.hd hc) fun h' tk k => ⟨_, H, I.kept k, ?_, q⟩
  by_cases hj : j > i
  · rw [if_pos hj, if_pos hj]; exact ⟨_, rfl⟩
  · rw [if_neg hj, if_neg hj]; exact ⟨_, rfl⟩
theorem call_min2 (hc : X.calm = true) : CallR X (.builtin "min") (fun xs H Q => ∃ i j, xs = [.int i, .int j] ∧ Q (.int (if j < i then j else i)) H) := by
  intro pins s σ H xs us Q I r h
  obtain ⟨i, j, rfl, q⟩ := h
  obtain ⟨u, w', rfl, ⟨t, rfl⟩, ⟨t', rfl⟩⟩ := vals2 r
  refine min_two_ints (I.ok.hd hc) fun h' tk k => ⟨_, H, I.kept k, ?_, q⟩
  by_cases hj : j < i
  · rw [if_pos hj, if_pos hj]; exact ⟨_, rfl⟩
  · rw [if_neg hj, if_neg hj]; exact ⟨_, rfl⟩
theorem call_int1 : CallR X (.type "int") (fun xs H Q => (∃ i, xs = [.int i] ∧ Q (.int i) H) ∨ ∃ k, xs = [.bl k] ∧ Q (.int (if k then 1 else 0)) H) := by
  intro pins s σ H xs us Q I r h
  rcases h with ⟨i, rfl, q⟩ | ⟨k, rfl, q⟩
  · obtain ⟨u, rfl, t, rfl⟩ := vals1 r
    exact call_int_int ⟨.int i, H, I, ⟨_, rfl⟩, q⟩
  · obtain ⟨u, rfl, r1⟩ := vals1 r
    cases r1
    exact call_int_bool ⟨.int (if k then 1 else 0), H, I.tok _, ⟨_, rfl⟩, q⟩
end
end L2

namespace L2
open PySem PySem.Spec PyProof.Rows

/-! ### an instance, its attributes a map -/
structure ObjM (h : Heap) (x dx C : Addr) (mA : Str → Option Value) : Prop where
  obj : h.get? x = some (PySem.W.instObj C dx)
  ns : h.Ns1 dx mA
  ne : dx ≠ x

theorem lookIn_ns {h : Heap} {dx : Addr} {mA : Str → Option Value} (n : h.Ns1 dx mA) : ∃ od, h.get? dx = some od ∧ ∀ name, PySem.W.lookIn name od = some (mA name) := by
  obtain ⟨o, es, ep, ho, hd, hk, _, hm⟩ := n
  refine ⟨o, ho, fun name => ?_⟩
  have e := hm name
  unfold nsFind findBy at e
  rw [← Array.find?_toList] at e
  unfold PySem.W.lookIn
  rw [hd]
  dsimp only
  split
  · rename_i y q
    rw [q] at e
    exact congrArg some e
  · rename_i q
    rw [q] at e
    have a : es.toList.any (·.refKey) = false := by
      rw [List.any_eq_false]
      intro y hy
      obtain ⟨z, t, hkey⟩ := hk y (Array.mem_toList_iff.mp hy)
      simp [DictEntry.refKey, hkey]
    have a' : ¬ es.toList.any (·.refKey) = true := by rw [a]; exact Bool.false_ne_true
    rw [if_neg a']
    exact congrArg some e

theorem ObjM.look {h : Heap} {x dx C : Addr} {mA : Str → Option Value} (I : ObjM h x dx C mA) : ∃ od, PySem.W.InstAt h x (PySem.W.instObj C dx) C (some od) ∧ ∀ name, PySem.W.lookIn name od = some (mA name) :=
  let ⟨od, ho, hl⟩ := lookIn_ns I.ns
  ⟨od, ⟨I.obj, rfl, rfl, ho⟩, hl⟩

section
variable {prog : Program} {w : World} {A : Around} {E : Value → Shared → Prop} {s : Shared} {K : PySem.W.Frag} {x dx C f : Addr} {mA : Str → Option Value} {name : Str} {v : Value}

end

/-! ### the attributes as a list of pairs -/
theorem RelO.some_of {v : V} {o : Option Value} (r : RelO (some v) o) : ∃ u, o = some u ∧ RelV v u := by
  cases o with
  | none => exact (show False from r).elim
  | some u => exact ⟨u, rfl, r⟩
theorem handed_of {v : V} {u : Value} (r : RelV v u) : PySem.W.handedIn u = true := by
  cases v with
  | non => cases (show u = Value.none from r); rfl
  | bl b => cases (show u = Value.bool b from r); rfl
  | int i => obtain ⟨t, e⟩ := (show ∃ t, u = Value.int i t from r); cases e; rfl
  | str x => obtain ⟨t, e⟩ := (show ∃ t, u = Value.str x t from r); cases e; rfl
  | byt b => obtain ⟨t, e⟩ := (show ∃ t, u = Value.bytes b t from r); cases e; rfl
  | flt b => obtain ⟨t, e⟩ := (show ∃ t, u = Value.float b t from r); cases e; rfl
  | ref a => cases (show u = Value.ref a from r); rfl
  | ty n => cases (show u = Value.type n from r); rfl

section
variable {P : Program} {w : World} {H H' : Hp} {h h' : Heap} {a C dx : Addr} {fs fs' : List (Str × V)}
theorem ins_get (hok : HOk P w H h) (e : H a = some (.ins C dx fs)) : ∃ mA, ObjM h a dx C mA ∧ (∀ f, RelO (fs.lookup f) (mA f)) ∧ PySem.Within mA (fs.map (·.1)) ∧ fs.length ≤ 1000 ∧ H dx = some (.own a) := by
  obtain ⟨d, z, ne, ob, mA, n, r, q⟩ := (show ObjOk P w H h a (.ins C dx fs) from hok a _ e)
  exact ⟨mA, ⟨ob, n, ne⟩, r, q, z, d⟩
end

/-! ### what of the text a class must have -/
structure Cls (K : PySem.W.Frag) (C : Addr) : Prop where
  pg : PySem.W.plainGet K C Str.empty = true
  hd : PySem.W.hasDictIn K C = true
  po : PySem.W.plainOver K C = true
  sa : PySem.W.findIn K (.ref C) "__setattr__" = some (some (.builtin "object.__setattr__"))
theorem Cls.get {K : PySem.W.Frag} {C : Addr} (c : Cls K C) (f : Str) : PySem.W.plainGet K C f = true := c.pg
/-- no class of it has the name -/
def NoAttr (K : PySem.W.Frag) (C : Addr) (f : Str) : Prop := PySem.W.findIn K (.ref C) f = some none
section
variable {X : Cx} {pins : List (Addr × Obj)} {σ : St} {H : Hp} {s : Shared} {a C dx : Addr} {fs : List (Str × V)} {f : Str} {v : V} {A : Around} {E : Value → Shared → Prop}

/-- e.f where nothing but the object is asked: through attributeBase (super) and the last hold -/
theorem attr_of {prog : Program} {w : World} {env : Env} {e : Expr} {f : Str} {pos : Pos} {s : Shared} {Q : Value → Shared → Prop} (hb : attributeBase e f env (eval e env) = eval e env)
    (h : wpAny (model prog w) A (eval e env) (fun o s₁ => wpAny (model prog w) A (getAttr o f true) Q E s₁) E s) : wpAny (model prog w) A (eval (.Attribute e f pos) env) Q E s :=
  Attribute_any_ h (by rw [arm_eval_Attribute, hb])
end

/-! ### readings and rules -/
section
variable {X : Cx} {o e value : Expr} {f : Str} {pos pos' tpos : Pos} {ta tv : TE}
end

/-! ### isinstance -/
section
variable {X : Cx} {pins : List (Addr × Obj)} {σ : St} {H : Hp} {s : Shared} {A : Around} {E : Value → Shared → Prop} {Q : Value → Shared → Prop} {c : Value} {b : Bool}
/-- the type of a value, as the fragment's deciders take it; for an instance its class -/
inductive TyOf (K : PySem.W.Frag) (H : Hp) : V → Value → Prop where
  | non : TyOf K H .non (.type "NoneType")
  | bl (x : Bool) : TyOf K H (.bl x) (.type "bool")
  | int (i : Int) : TyOf K H (.int i) (.type "int")
  | str (x : Str) : TyOf K H (.str x) (.type "str")
  | flt (x : UInt64) : TyOf K H (.flt x) (.type "float")
  | lst {a : Addr} {xs : List V} (e : H a = some (.lst xs)) : TyOf K H (.ref a) (.type "list")
  | frz {a : Addr} {o : Obj} {xs : List V} (e : H a = some (.frz o (.lst xs))) : TyOf K H (.ref a) (.type "list")
  | tup {a : Addr} {xs : List V} (e : H a = some (.tup xs)) : TyOf K H (.ref a) (.type "tuple")
  | dK {a : Addr} {kvs : List (Key × V)} (e : H a = some (.dK kvs)) : TyOf K H (.ref a) (.type "dict")
  | dT {a : Addr} {kvs : List (List Key × V)} (e : H a = some (.dT kvs)) : TyOf K H (.ref a) (.type "dict")
  | ins {a C dx : Addr} {fs : List (Str × V)} (e : H a = some (.ins C dx fs)) (cl : Cls K C) (ha : PySem.W.findIn K (.ref C) "__class__" = some (some (.builtin "object.__class__")))
      (hn : PySem.W.specialIn K (.builtin "object.__class__") "__get__" = some (some (.builtin "getset_descriptor.__get__"))) (htk : PySem.W.takesIn K (.builtin "object.__class__") = some true)
      (hm : PySem.W.mroIn K C (.type "object") = some true) : TyOf K H (.ref a) (.ref C)
/-- isinstance(x, c) for one class c, a built-in or an own one: kitOne's answer -/
theorem isinst_ok {x : V} {u t : Value} (I : Inv X pins σ H s) (rx : RelV x u) (ty : TyOf X.K H x t) (e : PySem.W.kitOne X.K t c = some b) (h : ∀ tk, Q (.bool b) { s with toks := tk }) :
    wpAny (model X.prog X.w) A (call (.builtin "isinstance") [u, c]) Q E s := by
  cases ty with
  | non => cases (show u = Value.none from rx); exact PySem.W.kia_one PySem.W.kitx_none I.kIn True.intro e (fun z => nomatch z) h
  | bl y => cases (show u = Value.bool y from rx); exact PySem.W.kia_one PySem.W.kitx_bool I.kIn True.intro e (fun z => nomatch z) h
  | int i => obtain ⟨t, q⟩ := (show ∃ t, u = Value.int i t from rx); cases q; exact PySem.W.kia_one PySem.W.kitx_int I.kIn True.intro e (fun z => nomatch z) h
  | str y => obtain ⟨t, q⟩ := (show ∃ t, u = Value.str y t from rx); cases q; exact PySem.W.kia_one PySem.W.kitx_str I.kIn True.intro e (fun z => nomatch z) h
  | flt y => obtain ⟨t, q⟩ := (show ∃ t, u = Value.float y t from rx); cases q; exact PySem.W.kia_one PySem.W.kitx_float I.kIn True.intro e (fun z => nomatch z) h
  | @lst a xs ea =>
    cases (show u = Value.ref a from rx)
    obtain ⟨_, _, n, _, h1⟩ := (show ObjOk X.prog X.w H s.heap a (.lst xs) from I.hok a _ ea)
    exact PySem.W.kia_one PySem.W.kitx_list I.kIn ⟨_, h1, rfl⟩ e (fun z => nomatch z) h
  | @frz a ob xs ea =>
    cases (show u = Value.ref a from rx)
    obtain ⟨_, _, _, n, _, h1⟩ := (show ObjOk X.prog X.w H s.heap a (.frz ob (.lst xs)) from I.hok a _ ea)
    exact PySem.W.kia_one PySem.W.kitx_list I.kIn ⟨_, h1, rfl⟩ e (fun z => nomatch z) h
  | @tup a xs ea =>
    cases (show u = Value.ref a from rx)
    obtain ⟨_, _, _, p⟩ := (show ObjOk X.prog X.w H s.heap a (.tup xs) from I.hok a _ ea)
    obtain ⟨o, h1, h2, _⟩ := p
    exact PySem.W.kia_one PySem.W.kitx_tuple I.kIn ⟨o, h1, h2⟩ e (fun z => nomatch z) h
  | @dK a kvs ea =>
    cases (show u = Value.ref a from rx)
    obtain ⟨_, _, vs, _, p⟩ := (show ObjOk X.prog X.w H s.heap a (.dK kvs) from I.hok a _ ea)
    obtain ⟨o, es, ep, h1, h2, _⟩ := p
    exact PySem.W.kia_one PySem.W.kitx_dict I.kIn ⟨o, h1, h2.1⟩ e (fun z => nomatch z) h
  | @dT a kvs ea =>
    cases (show u = Value.ref a from rx)
    obtain ⟨_, _, xs, _, o, es, ep, h1, h2, _⟩ := (show ObjOk X.prog X.w H s.heap a (.dT kvs) from I.hok a _ ea)
    exact PySem.W.kia_one PySem.W.kitx_dict I.kIn ⟨o, h1, h2.1⟩ e (fun z => nomatch z) h
  | @ins a C dx fs ea cl ha hn htk hm =>
    cases (show u = Value.ref a from rx)
    obtain ⟨mA, O, _⟩ := ins_get I.hok ea
    obtain ⟨od, J, _⟩ := O.look
    exact PySem.W.kia_one (PySem.W.kitx_own (cl.get _) cl.hd ha hn htk hm) I.kIn J e (fun z => nomatch z) h
end
end L2

namespace L2
open PySem PySem.Spec PyProof.Rows

/-! ### room -/
structure Room (k : Nat) (A : Around) : Prop where
  hd : A.handled = none
  dp : A.depth + 3 * k + 5 < recursionLimit
  un : A.units + 16 * k + 200 < cLine
theorem Room.mono {j k : Nat} {A : Around} (r : Room k A) (h : j ≤ k) : Room j A := ⟨r.hd, by have := r.dp; omega, by have := r.un; omega⟩
theorem Room.deeper {k : Nat} {A : Around} (r : Room (k + 1) A) (env : Env) : Room k (A.deeper env) :=
  ⟨r.hd, by have := r.dp; show A.depth + 1 + 3 * k + 5 < _; omega, by have := r.un; show A.units + 3 + 16 * k + 200 < _; omega⟩
theorem make_depth {A : Around} {C : Addr} {us : List Value} {kw : List (Str × Value)} : (A.under (.builtin "type.__call__" ⟨.ref C :: us, kw⟩)).depth = A.depth + 1 := by
  first | rfl | simp [Around.under, Code.weight, Code.isCreation, Code.isGuard, Code.isCaller, Code.frames, Code.isFrame, guardIds]
theorem make_units {A : Around} {C : Addr} {us : List Value} {kw : List (Str × Value)} : (A.under (.builtin "type.__call__" ⟨.ref C :: us, kw⟩)).units = A.units + 1 := by
  first | rfl | simp [Around.under, Code.cUnits, Code.frames, Code.isFrame]
theorem Room.make {k : Nat} {A : Around} (r : Room (k + 1) A) (C : Addr) (us : List Value) (kw : List (Str × Value)) : Room k (A.under (.builtin "type.__call__" ⟨.ref C :: us, kw⟩)) :=
  ⟨r.hd, by have := r.dp; rw [make_depth]; omega, by have := r.un; rw [make_units]; omega⟩
theorem Room.depth {k : Nat} {A : Around} (r : Room k A) : A.depth < recursionLimit := by have := r.dp; omega
theorem Room.units {k : Nat} {A : Around} (r : Room k A) : A.units + 64 < cLine := by have := r.un; omega
/-! ### argument lists and displays -/
def tNil : TA := fun _ H Q => Q [] H
def tCons (ta : TE) (tr : TA) : TA := fun σ H Q => ta σ H fun x H1 => tr σ H1 fun xs H2 => Q (x :: xs) H2
section
variable {X : Cx} {e : Expr} {es : List Expr} {te : TE} {t : TA} {pos : Pos}
theorem pa_nil : PA X [] tNil := fun _ _ _ _ H Q I h => Calls.spliced_nil ⟨[], H, I, .nil, h⟩
theorem pa_cons (ha : PE X e te) (hr : PA X es t) (hs : starEach (e :: es) X.env = (false, eval e X.env) :: starEach es X.env := by rfl) : PA X (e :: es) (tCons te t) := by
  intro pos pins s σ H Q I h
  rw [hs]
  show wpAny _ _ (spliced ((false, eval e X.env) :: backTo pos (starEach es X.env))) _ _ s
  refine Calls.spliced_cons (thn (ha pins s σ H _ I h) fun u s1 ⟨x, H1, I1, r1, q1⟩ => ?_)
  exact thn (hr pos pins s1 σ H1 _ I1 q1) fun us s2 ⟨xs, H2, I2, r2, q2⟩ => ⟨x :: xs, H2, I2, .cons r1 r2, q2⟩

/-- a tuple, a list of written items -/
def tTup (t : TA) : TE := fun σ H Q => t σ H fun xs H1 => xs.length ≤ sizeLine ∧ ∀ p, H1 p = none → Q (.ref p) (upd H1 p (.tup xs))
def tLst (t : TA) : TE := fun σ H Q => t σ H fun xs H1 => xs.length ≤ sizeLine ∧ ∀ p, H1 p = none → Q (.ref p) (upd H1 p (.lst xs))
theorem pe_tup {x1} (h : PA X es t) : PE X (.Tuple es x1 pos) (tTup t) := by
  intro pins s σ H Q I hq
  refine wpAny_Tuple_spliced (thn (h pos pins s σ H _ I hq) fun us s1 ⟨xs, H1, I1, r, z, q⟩ => ⟨by rw [← r.length]; exact z, ?_⟩)
  have hf : H1 s1.heap.objs.size = none := I1.hok.fresh (Nat.le_refl _)
  refine ⟨.ref s1.heap.objs.size, upd H1 s1.heap.objs.size (.tup xs), I1.laid (t' := s1.toks) (fun b u e => Heap.get?_push_of_some _ e) (Nat.le_refl _) ?_, rfl, q _ hf⟩
  exact ⟨z, us, r, ⟨_, Heap.get?_push_size _ rfl, rfl, _, rfl⟩⟩
theorem pe_lst (h : PA X es t) : PE X (.List es pos) (tLst t) := by
  intro pins s σ H Q I hq
  refine wpAny_List_spliced (thn (h pos pins s σ H _ I hq) fun us s1 ⟨xs, H1, I1, r, z, q⟩ => ⟨by rw [← r.length]; exact z, ?_⟩)
  have hf : H1 s1.heap.objs.size = none := I1.hok.fresh (Nat.le_refl _)
  refine ⟨.ref s1.heap.objs.size, upd H1 s1.heap.objs.size (.lst xs), I1.laid (t' := s1.toks) (fun b u e => Heap.get?_push_of_some _ e) (Nat.le_refl _) ?_, rfl, q _ hf⟩
  exact ⟨z, us, 0, r, Heap.get?_push_size _ rfl⟩
end

/-! ### what a def promises -/
/-- a def's promise: the bound arguments in the parameters' order, the heap, the wanted end, the wanted exception -/
abbrev Sp := List V → Hp → VK → XK → Prop
/-- how an exception lies behind a call (file 08 gives it): the callers' frames, abstract heap and state ahead of the call, the wish, the exception, the state -/
abbrev CXT := List Env → Hp → Shared → XK → Value → Shared → Prop

/-- the state at a call -/
structure Env0 (P : Program) (w : World) (K : PySem.W.Frag) (mg : Str → Option Value) (base : Heap) (A : Around) (outer : List Env) (s : Shared) (H : Hp) : Prop where
  frames : A.frames = some outer
  mod : Mod K mg base
  bs : ∀ b o, base.get? b = some o → s.heap.get? b = some o ∧ H b = none
  bsz : base.objs.size ≤ s.heap.objs.size
  funs : s.heap.FunFrames base outer
  frf : ∀ b ∈ frs outer, H b = none
  hok : HOk P w H s.heap
  bare : AllBare s.gens
/-- a call's end -/
def CE (outer : List Env) (P : Program) (w : World) (H : Hp) (s : Shared) (Q : VK) (u : Value) (s' : Shared) : Prop :=
  ∃ v H', s'.os = s.os ∧ AllBare s'.gens ∧ Un (frs outer) [] H H' s.heap s'.heap ∧ HOk P w H' s'.heap ∧ RelV v u ∧ Q v H'
def CR (CX : CXT) (outer : List Env) (P : Program) (w : World) (H : Hp) (s : Shared) (Q : VK) (E : XK) (r : Result) (s' : Shared) : Prop :=
  match r with
  | .ok (.ret u) => CE outer P w H s Q u s'
  | .ok _ => False
  | .error e => CX outer H s E e s'
structure FnOk (P : Program) (w : World) (K : PySem.W.Frag) (mg : Str → Option Value) (base : Heap) (CX : CXT) (k : Nat) (f : Addr) (fd : FuncData) (ps : List Str) (sp : Sp) : Prop where
  len : ∀ vs H Q E, sp vs H Q E → vs.length = ps.length
  run : ∀ (A : Around) (outer : List Env) (s : Shared) (H : Hp) (args : Args) (us : List Value) (vs : List V) (Q : VK) (E : XK), Room k A → Env0 P w K mg base A outer s H → BindsTo s fd args (ps.zip us) → Vals vs us → sp vs H Q E →
    codeAny (model P w) A (.call (.ref f) args) (CR CX outer P w H s Q E) s
theorem Env0.make {P : Program} {w : World} {K : PySem.W.Frag} {mg : Str → Option Value} {base : Heap} {A : Around} {outer : List Env} {s : Shared} {H : Hp} (e : Env0 P w K mg base A outer s H) (C : Addr) (us : List Value) (kw : List (Str × Value)) :
    Env0 P w K mg base (A.under (.builtin "type.__call__" ⟨.ref C :: us, kw⟩)) outer s H := ⟨by first | exact e.frames | (simpa [Around.under, Code.envs, Code.isFrame, pushEnvs] using e.frames), e.mod, e.bs, e.bsz, e.funs, e.frf, e.hok, e.bare⟩
section
variable {X : Cx} {pins : List (Addr × Obj)} {σ : St} {H : Hp} {s s' : Shared}
/-- from a body: what a callee wants -/
theorem Inv.env0 (I : Inv X pins σ H s) : Env0 X.prog X.w X.K X.mg X.base X.A X.stack s H :=
  ⟨I.ok.frames, I.ok.mod, I.bs, Nat.le_trans I.ok.bsz I.sz, I.stack, I.stkFree, I.hok, I.bare⟩
/-- behind a call -/
theorem Inv.after {Q : VK} {u : Value} (I : Inv X pins σ H s) (h : CE X.stack X.prog X.w H s Q u s') : EP X pins σ Q u s' := by
  obtain ⟨v, H', os, bare, un, hok, r, q⟩ := h
  obtain ⟨hh, g, d, t, os'⟩ := s'
  obtain rfl : os' = s.os := os
  exact ⟨v, H', I.call (h' := hh) (g' := g) (d' := d) (t' := t) (ch := []) un hok bare (fun b z => absurd z (by simp)), r, q⟩
end

/-! ### calls -/
/-- f(..): the written arguments, then the defaults dvs; E: what is wanted of an exception -/
def tCall (sp : Sp) (dvs : List V) (E : XK) (t : TA) : TE := fun σ H Q => t σ H fun vs H1 => sp (vs ++ dvs) H1 Q E
/-- how the parameters are bound: us the positional arguments, kw the keywords' values by name, ds the defaults that fill up -/
def Binds (K : PySem.W.Frag) (fd : FuncData) (ps : List Str) (ds : List Value) : Prop :=
  ∀ (s : Shared) (us : List Value), K.In s.heap → (us ++ ds).length = ps.length → BindsTo s fd ⟨us, []⟩ (ps.zip (us ++ ds))
/-- every parameter is given -/
theorem Binds.all {K : PySem.W.Frag} {fd : FuncData} {ps : List Str} (h : ∀ us : List Value, us.length = ps.length → bindArgs fd ⟨us, []⟩ = pure (ps.zip us)) : Binds K fd ps [] := fun s us _ hl => by
  rw [List.append_nil] at hl ⊢
  exact .of_eq (h us hl)

/-- an exception of a callee reaches what this body wants of exceptions -/
def Passes (CX : CXT) (X : Cx) (E : XK) : Prop := ∀ (pins : List (Addr × Obj)) (σ : St) (H : Hp) (s : Shared) (e : Value) (s' : Shared), Inv X pins σ H s → CX X.stack H s E e s' → X.xe e s'

section
variable {X : Cx} {CX : CXT} {k : Nat} {f C : Addr} {fd : FuncData} {ps : List Str} {sp : Sp} {dvs : List V} {ds : List Value} {E : XK} {x m : Str} {p pos apos : Pos} {e o : Expr} {es : List Expr} {ta : TE} {t : TA}

/-- the callee runs -/
theorem run_fn {pins : List (Addr × Obj)} {σ : St} {H : Hp} {s : Shared} {Q : VK} {us : List Value} {vs : List V} (F : FnOk X.prog X.w X.K X.mg X.base CX k f fd ps sp) (hr : Room k X.A) (hb : Binds X.K fd ps ds) (hd : Vals dvs ds) (hx : Passes CX X E)
    (I : Inv X pins σ H s) (r : Vals vs us) (h : sp (vs ++ dvs) H Q E) : wpAny (model X.prog X.w) X.A (call (.ref f) us) (EP X pins σ Q) X.xe s := by
  have r2 : Vals (vs ++ dvs) (us ++ ds) := r.append hd
  have hl : (us ++ ds).length = ps.length := by rw [← r2.length]; exact F.len _ _ _ _ h
  refine wpAny_call (codeAny_mono (F.run X.A X.stack s H ⟨us, []⟩ (us ++ ds) (vs ++ dvs) Q E hr I.env0 (hb s us I.kIn hl) r2 h) fun r s' hq => ?_)
  cases r with
  | error e => exact hx pins σ H s e s' I hq
  | ok fl =>
    cases fl with
    | ret u => exact I.after hq
    | next => exact False.elim hq
    | brk => exact False.elim hq
    | cont => exact False.elim hq

theorem pe_call (F : FnOk X.prog X.w X.K X.mg X.base CX k f fd ps sp) (hr : Room k X.A) (hg : Gl X x) (hm : X.mg x = some (.ref f)) (hk : PySem.W.keepIn X.K (.ref f) = true) (hb : Binds X.K fd ps ds) (hd : Vals dvs ds) (hx : Passes CX X E)
    (ha : PA X (e :: es) t) (hdb : (x == ("__debug__" : Str)) = false := by decide) (he : starEach (e :: es) X.env = (false, eval e X.env) :: starEach es X.env := by rfl) (hpl : (backTo pos (starEach es X.env)).any (·.1) = false := by rfl) :
    PE X (.Call (.Name x p) (e :: es) [] pos) (tCall sp dvs E t) := by
  intro pins s σ H Q I h
  refine wpAny_Call_Name_kw (ld_glob I hg hm ?_ hdb)
  refine PySem.W.callWith_K (h₀ := X.base) I.ok.mod.kin hk (thn (ha pos pins s σ H _ I h) fun us s1 ⟨vs, H1, I1, r, q⟩ => ⟨I1.kIn, ?_⟩) he hpl
  exact run_fn F hr hb hd hx I1 r q
end

/-! ### keywords -/
section
variable {X : Cx} {CX : CXT} {k : Nat} {f C : Addr} {fd : FuncData} {ps ks : List Str} {sp : Sp} {E : XK} {x m : Str} {p pos apos kpos : Pos} {e o : Expr} {es : List Expr} {kws : List Keyword} {te ta : TE} {t tk : TA} {nm : Option Str}
variable {g : List Value → List Value → List Value} {gV : List V → List V → List V}
end

/-! ### a def's body keeps its promise -/
/-- names: the parameters first -/
structure FnScope (N P : List Str) (sc : Scope) : Prop where
  kind : sc.kind = .function
  co : sc.isCoroutine = false
  gen : sc.isGenerator = false
  nd : N.Nodup
  pre : N.take P.length = P
  par : ∀ x ∈ P, sc.names.lookup x = some .local ∨ sc.names.lookup x = some .cell
  nofree : ∀ y ∈ sc.names, y.2 ≠ .free

theorem bindL_out {kindOf : Str → Option NameKind} {x : Str} : ∀ {binds : List (Str × Value)} {m : Str → Option Value}, (∀ v, (x, v) ∉ binds) → bindL kindOf binds m x = m x
  | [], _, _ => rfl
  | (n, v) :: r, m, h => by
    unfold bindL
    rw [bindL_out fun w hw => h w (List.mem_cons_of_mem _ hw)]
    split
    · have : x ≠ n := by rintro rfl; exact h v List.mem_cons_self
      simp [this]
    · rfl
theorem bindC_out {kindOf : Str → Option NameKind} {x : Str} : ∀ {binds : List (Str × Value)} {m : Str → Option Value}, (∀ v, (x, v) ∉ binds) → bindC kindOf binds m x = m x
  | [], _, _ => rfl
  | (n, v) :: r, m, h => by
    unfold bindC
    rw [bindC_out fun w hw => h w (List.mem_cons_of_mem _ hw)]
    split
    · rfl
    · have : x ≠ n := by rintro rfl; exact h v List.mem_cons_self
      simp [this]
theorem bindL_get {kindOf : Str → Option NameKind} {x : Str} {v : Value} : ∀ {P : List Str} {vs : List Value} {i : Nat} {m : Str → Option Value}, P.Nodup → P[i]? = some x → vs[i]? = some v → kindOf x = some .local →
    bindL kindOf (P.zip vs) m x = some v
  | [], _, _, _, _, h, _, _ => by simp at h
  | _ :: _, [], _, _, _, _, h, _ => by simp at h
  | p :: P, w :: vs, 0, m, nd, h1, h2, hk => by
    simp at h1 h2; subst h1; subst h2
    show bindL kindOf ((p, w) :: P.zip vs) m p = _
    unfold bindL
    rw [bindL_out fun v hv => (List.nodup_cons.mp nd).1 (List.of_mem_zip hv).1, if_pos hk]
    simp
  | p :: P, w :: vs, i + 1, m, nd, h1, h2, hk => by
    show bindL kindOf ((p, w) :: P.zip vs) m x = _
    unfold bindL
    exact bindL_get (i := i) (List.nodup_cons.mp nd).2 (by simpa using h1) (by simpa using h2) hk
theorem bindC_get {kindOf : Str → Option NameKind} {x : Str} {v : Value} : ∀ {P : List Str} {vs : List Value} {i : Nat} {m : Str → Option Value}, P.Nodup → P[i]? = some x → vs[i]? = some v → kindOf x ≠ some .local →
    bindC kindOf (P.zip vs) m x = some v
  | [], _, _, _, _, h, _, _ => by simp at h
  | _ :: _, [], _, _, _, _, h, _ => by simp at h
  | p :: P, w :: vs, 0, m, nd, h1, h2, hk => by
    simp at h1 h2; subst h1; subst h2
    show bindC kindOf ((p, w) :: P.zip vs) m p = _
    unfold bindC
    rw [bindC_out fun v hv => (List.nodup_cons.mp nd).1 (List.of_mem_zip hv).1, if_neg hk]
    simp
  | p :: P, w :: vs, i + 1, m, nd, h1, h2, hk => by
    show bindC kindOf ((p, w) :: P.zip vs) m x = _
    unfold bindC
    exact bindC_get (i := i) (List.nodup_cons.mp nd).2 (by simpa using h1) (by simpa using h2) hk

/-- the names' values at the entry -/
def start (N : List Str) (vs : List V) : St := vs.map some ++ List.replicate (N.length - vs.length) none

/-- the context of a def's body, at its entry; an exception leaves the frame, then lies as CX says -/
def cxOf (CX : CXT) (P : Program) (w : World) (K : PySem.W.Frag) (mg : Str → Option Value) (base : Heap) (N : List Str) (qual : Str) (scope : Scope) (f : Addr) (cd : Value) (A : Around) (outer : List Env) (s : Shared) (H : Hp) (E : XK) : Cx where
  prog := P
  w := w
  K := K
  mg := mg
  base := base
  A := A.deeper (envOfC qual scope s.heap.objs.size f cd)
  N := N
  s₀ := s
  H₀ := H
  env := envOfC qual scope s.heap.objs.size f cd
  outer := outer
  stack := envOfC qual scope s.heap.objs.size f cd :: outer
  ex := []
  calm := true
  fn := fun _ => true
  pn := []
  xe := fun e s' => wpAny (model P w) (A.deeper (envOfC qual scope s.heap.objs.size f cd)) (leaving (envOfC qual scope s.heap.objs.size f cd) e) (fun _ s'' => CX outer H s E e s'') (fun e' s'' => CX outer H s E e' s'') s'

theorem cell_has {sc : Scope} {n : Nat} {x : Str} (h : sc.names.lookup x = some .cell) : ∃ c, (cellsFrom n sc.names []).lookup x = some c := by
  have q := PySem.W.cellsFrom_some sc.names n [] (.inl h)
  exact Option.isSome_iff_exists.mp q

theorem inv_start {CX : CXT} {P : Program} {w : World} {K : PySem.W.Frag} {mg : Str → Option Value} {base : Heap} {N ps : List Str} {qual : Str} {scope : Scope} {f : Addr} {cd : Value} {A : Around} {outer : List Env} {s s1 : Shared} {H : Hp} {E : XK} {us : List Value} {vs : List V}
    (S : FnScope N ps scope) (hd : A.handled = none) (e0 : Env0 P w K mg base A outer s H) (hl : vs.length = ps.length) (r : Vals vs us)
    (x : InCallC s s.heap.objs.size (bindL (envOfC qual scope s.heap.objs.size f cd).kindOf (ps.zip us) fun _ => none) (cellsFrom (s.heap.objs.size + 1) scope.names []) (bindC (envOfC qual scope s.heap.objs.size f cd).kindOf (ps.zip us) fun _ => none) s1) :
    Inv (cxOf CX P w K mg base N qual scope f cd A outer s H E) [] (start N vs) H s1 := by
  have hpl : ps.length ≤ N.length := by have := congrArg List.length S.pre; rw [List.length_take] at this; omega
  obtain ⟨h1, tk, rfl, hk⟩ := x.done
  have noA : ∀ b : Addr, b ∉ (cxOf CX P w K mg base N qual scope f cd A outer s H E).ex := fun b z => absurd (show b ∈ ([] : List Addr) from z) (by simp)
  refine ⟨⟨e0.mod, S.kind, rfl, rfl, Nat.le_refl _, fun y z c h1 h2 => ?_, fun y hy => ?_, fun y c _ h => ?_, fun _ => hd, Around.frames_deeper e0.frames, .inr ⟨rfl, rfl⟩, fun b z => absurd z (noA b), e0.bs, e0.bsz, fun b _ _ => noA b, fun b z => absurd z (noA b), e0.funs, e0.frf⟩,
    rfl, e0.bare, Un.kept hk, ⟨_, x.toInCall.ns, fun i y v h1 h2 h3 => ?_⟩, fun y c h => ⟨_, x.cell y c h⟩, e0.hok.fresh (Nat.le_refl _), fun y c h => ?_, fun p hp => absurd (show p ∈ ([] : List (Addr × Obj)) from hp) (by simp), e0.hok.kept hk, ?_⟩
  · exact name_of_addr x.apart (PySem.mem_of_lookup h1) (PySem.mem_of_lookup h2)
  · have hy : scope.names.lookup y = some .cell ∨ scope.names.lookup y = some .free := hy
    rcases hy with hy | hy
    · exact cell_has hy
    · exact absurd rfl (S.nofree _ (PySem.mem_of_lookup hy))
  · exact Nat.le_of_lt (x.above y c (PySem.mem_of_lookup h))
  · have hi : i < vs.length := by
      unfold start at h2
      by_cases hi : i < vs.length
      · exact hi
      · rw [List.getElem?_append_right (by simpa using hi)] at h2
        rw [List.getElem?_replicate] at h2
        split at h2 <;> cases h2
    have ha : vs[i]? = some v := by
      unfold start at h2
      rw [List.getElem?_append_left (by simpa using hi), List.getElem?_map] at h2
      cases e : vs[i]? with
      | none => rw [e] at h2; cases h2
      | some a => rw [e] at h2; cases h2; rfl
    obtain ⟨u, hu, rv⟩ := r.get ha
    have hp : ps[i]? = some y := by
      rw [← S.pre, List.getElem?_take_of_lt (by omega)]; exact h1
    have ndP : ps.Nodup := by rw [← S.pre]; exact S.nd.sublist (List.take_sublist _ _)
    refine ⟨u, rv, ?_⟩
    rcases S.par y (List.mem_of_getElem? hp) with k | k
    · exact .inl ⟨k, bindL_get ndP hp hu k⟩
    · obtain ⟨c, e⟩ := cell_has (n := s.heap.objs.size + 1) k
      refine .inr ⟨.inl k, c, e, ?_⟩
      have q := x.cell y c e
      rw [bindC_get ndP hp hu (by show scope.names.lookup y ≠ _; rw [k]; decide)] at q
      exact q
  · exact e0.hok.fresh (Nat.le_of_lt (x.above y c (PySem.mem_of_lookup h)))
  · unfold start
    show _ = N.length
    rw [List.length_append, List.length_map, List.length_replicate]
    omega

/-- THE RULE: a def (or a method) of the text, by its body. The body's reading t is chosen for each entry; it is run at the parameters' values -/
theorem fn_of {CX : CXT} {P : Program} {w : World} {K : PySem.W.Frag} {mg : Str → Option Value} {base : Heap} {k : Nat} {f : Addr} {name qual : Str} {params : Arguments} {body : List Stmt} {scope : Scope} {dV kV doc pm cdv ct oc : Value} {an od : Option Addr}
    {osl : Array (Option Value)} {N ps : List Str} {sp : Sp} (lk : K.lookup f = some ⟨oc, od, .func (PySem.W.fnOf name qual params body scope dV kV doc pm an cdv ct), osl⟩) (hcd : PySem.W.codeIn K cdv qual = true) (S : FnScope N ps scope)
    (len : ∀ vs H Q E, sp vs H Q E → vs.length = ps.length)
    (hbody : ∀ (A : Around) (outer : List Env) (s : Shared) (H : Hp) (vs : List V) (Q : VK) (E : XK), Room k (A.deeper (envOfC qual scope s.heap.objs.size f cdv)) → sp vs H Q E →
      ∃ t, PSs (cxOf CX P w K mg base N qual scope f cdv A outer s H E) body t ∧ t { nx := fun _ H' => Q .non H', rt := Q } (start N vs) H) :
    FnOk P w K mg base CX (k + 1) f (PySem.W.fnOf name qual params body scope dV kV doc pm an cdv ct) ps sp := by
  refine ⟨len, fun A outer s H args us vs Q E hr e0 hb r hsp => ?_⟩
  have hl := len _ _ _ _ hsp
  have KX : K.In s.heap := e0.mod.kin.keeps fun b o e => (e0.bs b o e).1
  have lim : s.heap.NoLimit := e0.mod.nolimit.keeps fun b o e => (e0.bs b o e).1
  have hkind : ∀ y ∈ ps.zip us, scope.names.lookup y.1 = some .local ∨ (scope.names.lookup y.1 = some .cell ∧ ((cellsFrom (s.heap.objs.size + 1) scope.names []).lookup y.1).isSome = true) := fun ⟨n, v⟩ hy => by
    rcases S.par n (List.of_mem_zip hy).1 with q | q
    · exact .inl q
    · exact .inr ⟨q, PySem.W.cellsFrom_some _ _ _ (.inl q)⟩
  refine codeAny_call_function hr.depth (KX _ _ lk) rfl S.co S.gen rfl (PySem.W.codeRec_of KX hcd) (hb _ _ _ _ ?_)
  refine wpAny_newFunctionEnv_cells S.kind hkind fun env he s1 x => ?_
  subst he
  refine ⟨lim.keeps x.toInCall.keep, codeAny_func ?_⟩
  obtain ⟨t, ht, hq⟩ := hbody A outer s H vs Q E (hr.deeper _) hsp
  have I : Inv (cxOf CX P w K mg base N qual scope f cdv A outer s H E) [] (start N vs) H s1 := inv_start S hr.hd e0 hl r x
  refine wpAny_mono (ht [] s1 (start N vs) H _ I hq) (fun fl s' hs => ?_) fun e s' hs => hs
  have fin : ∀ {σ' : St} {H' : Hp} {v : V} {u : Value}, Inv (cxOf CX P w K mg base N qual scope f cdv A outer s H E) [] σ' H' s' → RelV v u → Q v H' → CE outer P w H s Q u s' :=
    fun {σ' H' v u} J rv q => ⟨v, H', J.os, J.bare, J.base, J.hok, rv, q⟩
  cases fl with
  | ret u =>
    obtain ⟨v, σ', H', J, rv, q⟩ := hs
    exact fin J rv q
  | next =>
    obtain ⟨σ', H', J, q⟩ := hs
    exact fin (v := V.non) (u := Value.none) J rfl q
  | brk =>
    obtain ⟨_, _, _, q⟩ := hs
    exact False.elim q
  | cont =>
    obtain ⟨_, _, _, q⟩ := hs
    exact False.elim q
end L2

namespace L2
open PySem PySem.Spec PyProof.Rows
section
variable {X : Cx} {x : Str} {p pos : Pos} {e : Expr} {es : List Expr} {t : TA} {id T : String} {r : List V → Hp → VK → Prop}

def tCB (r : List V → Hp → VK → Prop) (t : TA) : TE := fun σ H Q => t σ H fun vs H1 => r vs H1 Q
/-- f(e, ..), f a built-in function -/
theorem pe_callB (hc : CallR X (.builtin id) r) (hg : Gl X x) (hm : X.mg x = none) (hv : bootBuiltins x = some (.builtin id)) (ha : PA X (e :: es) t) (hn : x ≠ "__name__" := by decide) (hdb : (x == ("__debug__" : Str)) = false := by decide)
    (he : starEach (e :: es) X.env = (false, eval e X.env) :: starEach es X.env := by rfl) (hpl : (backTo pos (starEach es X.env)).any (·.1) = false := by rfl) : PE X (.Call (.Name x p) (e :: es) [] pos) (tCB r t) := by
  intro pins s σ H Q I h
  refine wpAny_Call_Name_kw (ld_blt I hg hm hv ?_ hn hdb)
  exact PyProof.Rows.callWith_builtin1 (thn (ha pos pins s σ H _ I h) fun us s1 ⟨vs, H1, I1, r1, q1⟩ => hc pins s1 σ H1 vs us Q I1 r1 q1) he hpl
/-- T(e, ..), T a built-in type -/
theorem pe_callTy (hc : CallR X (.type T) r) (hg : Gl X x) (hm : X.mg x = none) (hv : bootBuiltins x = some (.type T)) (ha : PA X (e :: es) t) (hn : x ≠ "__name__" := by decide) (hdb : (x == ("__debug__" : Str)) = false := by decide)
    (he : starEach (e :: es) X.env = (false, eval e X.env) :: starEach es X.env := by rfl) (hpl : (backTo pos (starEach es X.env)).any (·.1) = false := by rfl) : PE X (.Call (.Name x p) (e :: es) [] pos) (tCB r t) := by
  intro pins s σ H Q I h
  refine wpAny_Call_Name_kw (ld_blt I hg hm hv ?_ hn hdb)
  exact PyProof.Rows.callWith_type1 (thn (ha pos pins s σ H _ I h) fun us s1 ⟨vs, H1, I1, r1, q1⟩ => hc pins s1 σ H1 vs us Q I1 r1 q1) he hpl
end
end L2

namespace HT
open PySem PyProof.Rows

/-- t < u of tuples of ints -/
def lexLt : List Int → List Int → Bool
  | [], [] => false
  | [], _ :: _ => true
  | _ :: _, [] => false
  | x :: xs, y :: ys => if x = y then lexLt xs ys else decide (x < y)
theorem lexLt_cons (x y : Int) (xs ys : List Int) : lexLt (x :: xs) (y :: ys) = if x = y then lexLt xs ys else decide (x < y) := rfl
theorem eqAt_int (A : Around) (s : Shared) (a : Int) (t : Tok) (c : Int) (u : Tok) : ∃ e, SeqAt.EqAt A s (.int a t) (.int c u) e ∧ (e = true ↔ a = c) :=
  ⟨(a == c), SeqAt.EqAt.int_int a t c u, by simp⟩
theorem rcLt_int (A : Around) (s : Shared) (a : Int) (t : Tok) (c : Int) (u : Tok) (prog : Program) (w : World) (E : Value → Shared → Prop) (Q : Value → Shared → Prop) (h : Q (.bool (decide (a < c))) s) :
    wpAny (model prog w) A (richCompare .Lt (.int a t) (.int c u)) Q E s :=
  (PyProof.Rows.lt_int h : wpAny (model prog w) A (compareOp .Lt (.int a t) (.int c u)) Q E s)

section
open PySem.SeqAt
open PySem.AutoSeq1 (wpAny_loadPart')
open PySem.MeetsSeq PySem.MeetsSeq2 PySem.MeetsSeq3

end

section
variable {prog : Program} {w : World} {A : Around} {E : Value → Shared → Prop} {s : Shared}

/-- t + u, t not empty -/
theorem cat_tup {t b : Addr} {vs ws : List Value} {Q : Value → Shared → Prop} (ht : IsTup s.heap t vs.toArray) (hb : IsTup s.heap b ws.toArray) (hv : vs ≠ [])
    (h1 : ws = [] → Q (.ref t) s) (h2 : ws ≠ [] → Q (.ref s.heap.objs.size) { s with heap := s.heap.push { cls := .type "tuple", data := .seq (vs ++ ws).toArray } })
    (hsz : vs.length + ws.length ≤ sizeLine) : wpAny (model prog w) A (binaryOp .Add (.ref t) (.ref b)) Q E s := by
  obtain ⟨⟨cls, dd, data, sl⟩, ho, hc, n, hd⟩ := id ht
  obtain ⟨⟨cls2, dd2, data2, sl2⟩, ho2, hc2, n2, hd2⟩ := id hb
  simp only at hc hd hc2 hd2
  subst hc hd hc2 hd2
  have e : vs.toArray ++ ws.toArray = (vs ++ ws).toArray := by simp
  by_cases hw : ws = []
  · exact concat_meets ⟨_, ho, rfl⟩ ⟨_, ho2, rfl⟩ noFill_tuple_add seq_tuple_add PySem.F.slot_tuple_add PySem.F.entry_tuple_add (PySem.F.args_tuple_add_2 _ _)
      (tuple_addW1 t b vs.toArray ws.toArray n n2 dd dd2 sl sl2 (by simpa using hv) (by simp [hw])) ⟨ho, ho2, h1 hw⟩
  · refine concat_meets ⟨_, ho, rfl⟩ ⟨_, ho2, rfl⟩ noFill_tuple_add seq_tuple_add PySem.F.slot_tuple_add PySem.F.entry_tuple_add (PySem.F.args_tuple_add_2 _ _)
      (tuple_addW2 t b vs.toArray ws.toArray n n2 dd dd2 sl sl2 (by simpa using hv) (by simpa using hw) (by rw [List.size_toArray, List.size_toArray]; exact hsz)) ⟨ho, ho2, ?_⟩
    rw [e]
    exact h2 hw

/-! ### t[a:b], not the whole -/
/-- a slice's bound as a place among n (d where it is left out) -/
def sIx (n d : Nat) : Option Int → Nat
  | none => d
  | some v => if v < 0 then (v + (n : Int)).toNat else min v.toNat n
theorem sIx_le (n d : Nat) (hd : d ≤ n) (o : Option Int) : sIx n d o ≤ n := by
  cases o with
  | none => exact hd
  | some v =>
    show (if v < 0 then (v + (n : Int)).toNat else min v.toNat n) ≤ n
    by_cases hv : v < 0
    · rw [if_pos hv]; omega
    · rw [if_neg hv]; exact Nat.min_le_right _ _
theorem clip_eq (v : Int) (n d : Nat) : (if v < 0 then max (v + (n : Int)) 0 else min v (n : Int)) = ((sIx n d (some v) : Nat) : Int) := by
  show (if v < 0 then max (v + (n : Int)) 0 else min v (n : Int)) = (((if v < 0 then (v + (n : Int)).toNat else min v.toNat n) : Nat) : Int)
  by_cases hv : v < 0
  · simp only [if_pos hv]; omega
  · simp only [if_neg hv]; omega
theorem adjust_gen (lo hi : Option Int) (n : Nat) : Builtin.Slice.sliceAdjust lo hi 1 (n : Int) = (((sIx n 0 lo : Nat) : Int), ((sIx n n hi : Nat) : Int)) := by
  have h1 : ¬ ((1 : Int) < 0) := by omega
  unfold Builtin.Slice.sliceAdjust
  simp only [h1, if_false]
  refine Prod.ext ?_ ?_
  · cases lo with
    | none => rfl
    | some v => exact clip_eq v n 0
  · cases hi with
    | none => rfl
    | some v => exact clip_eq v n n
theorem places_gen (i j : Nat) : Builtin.Slice.slicePlaces (i : Int) (j : Int) 1 = j - i := by
  unfold Builtin.Slice.slicePlaces
  have h1 : (1 : Int) > 0 := by omega
  simp only [h1, if_true, Int.ediv_one]
  split <;> omega
theorem slicePart_ {v : Value} {o : Option Int} {Q : Option Int → Shared → Prop} (p : IsPart v o) (h : Q o s) : wpAny (model prog w) A (Builtin.Slice.slicePartIndex v) Q E s := by
  cases p with
  | none => exact slicePart_none h
  | int i t => exact slicePart_int h
theorem sliceApplied_gen {sl : Addr} {vl vu : Value} {lo hi : Option Int} {n : Nat} {Q : Int × Int × Nat → Shared → Prop} (hs : s.heap.IsSliceOf sl vl vu .none) (pl : IsPart vl lo) (pu : IsPart vu hi)
    (h : Q (((sIx n 0 lo : Nat) : Int), 1, sIx n n hi - sIx n 0 lo) s) : wpAny (model prog w) A (Builtin.Slice.sliceApplied (.ref sl) (pure (n : Int))) Q E s := by
  obtain ⟨os, hos, hcs, hds⟩ := id hs
  unfold Builtin.Slice.sliceApplied Builtin.Slice.sliceFields
  refine wpAny_bind (wpAny_bind (wpAny_field hos hds (x := vl) rfl (wpAny_bind (wpAny_field hos hds (x := vu) rfl (wpAny_bind (wpAny_field hos hds (x := .none) rfl (wpAny_pure ?_)))))))
  refine wpAny_bind (slicePart_none ?_)
  show wpAny _ _ (if ((1 : Int) == 0) = true then _ else _) _ _ s
  rw [if_neg (by decide)]
  refine wpAny_bind (slicePart_ pl (wpAny_bind (slicePart_ pu (wpAny_bind (wpAny_pure ?_)))))
  show wpAny _ _ (match Builtin.Slice.sliceAdjust lo hi 1 (n : Int) with | (lo, hi) => pure (lo, (1 : Int), Builtin.Slice.slicePlaces lo hi 1)) _ _ s
  rw [adjust_gen lo hi n]
  show wpAny _ _ (pure (((sIx n 0 lo : Nat) : Int), (1 : Int), Builtin.Slice.slicePlaces ((sIx n 0 lo : Nat) : Int) ((sIx n n hi : Nat) : Int) 1)) _ _ s
  rw [places_gen]
  exact wpAny_pure h
theorem pick_gen (xs : Array Value) (i k : Nat) : ((List.range k).filterMap fun (m : Nat) => xs[((i : Int) + (m : Int) * 1).toNat]?).toArray = ((xs.toList.drop i).take k).toArray := by
  have e : (fun (m : Nat) => xs[((i : Int) + (m : Int) * 1).toNat]?) = fun m => xs[i + m]? := by
    funext m
    have : ((i : Int) + (m : Int) * 1).toNat = i + m := by omega
    rw [this]
  rw [e]
  have := pick_run xs i k
  rw [List.filterMap_map] at this
  have e2 : ((fun x => xs[x]?) ∘ fun x => i + x) = fun m => xs[i + m]? := rfl
  rw [e2] at this
  rw [this]

theorem getItem_tuple_cut {t sl : Addr} {items : Array Value} {vl vu : Value} {lo hi : Option Int} {Q : Value → Shared → Prop} (ht : IsTup s.heap t items) (hs : s.heap.IsSliceOf sl vl vu .none) (pl : IsPart vl lo) (pu : IsPart vu hi)
    (hw : ¬ (sIx items.size 0 lo = 0 ∧ sIx items.size items.size hi = items.size))
    (h : Q (.ref s.heap.objs.size) { s with heap := s.heap.push { cls := .type "tuple", data := .seq ((items.toList.drop (sIx items.size 0 lo)).take (sIx items.size items.size hi - sIx items.size 0 lo)).toArray } })
    (hsz : items.size ≤ sizeLine) : wpAny (model prog w) A (getItem (.ref t) (.ref sl)) Q E s := by
  have htake : sizeOk (.seq ((items.toList.drop (sIx items.size 0 lo)).take (sIx items.size items.size hi - sIx items.size 0 lo)).toArray) := by
    show ((items.toList.drop (sIx items.size 0 lo)).take (sIx items.size items.size hi - sIx items.size 0 lo)).toArray.size ≤ sizeLine
    rw [List.size_toArray, List.length_take, List.length_drop, Array.length_toList]
    omega
  have hj : sIx items.size items.size hi ≤ items.size := sIx_le _ _ (Nat.le_refl _) hi
  obtain ⟨os, hos, hcs, hds⟩ := id hs
  have hTs : s.TypeIs (.ref sl) "slice" := ⟨os, hos, hcs⟩
  unfold getItem
  try with_reducible refine wpAny_holding ?_
  first | refine wpAny_bind (wpAny_pure ?_) | skip
  refine wpAny_bind (wpAny_sequenceKey ht.typeIs (by decide) ?_)
  refine wpAny_bind (wpAny_callSpecial?_slot (name := Str.ofString "__getitem__") ht.typeIs PyProof.Rows.slot_tuple_getitem
    (wpAny_call_entry PyProof.Rows.slot_tuple_getitem ht.typeIs entry_tuple_getitem ?_ (args_tuple_getitem _ _)))
  show wpAny _ _ (Builtin.Tuple.tupleItemsOf (.ref t) >>= _) _ _ s
  refine wpAny_bind (tupleItemsOf_ ht ?_)
  refine wpAny_bind (wpAny_typeOf hTs ?_)
  rw [if_pos (by decide)]
  refine wpAny_bind (sliceApplied_gen hs pl pu ?_)
  have hno : ¬ ((((sIx items.size 0 lo : Nat) : Int) == 0 && (1 : Int) == 1 && (sIx items.size items.size hi - sIx items.size 0 lo) == items.size) = true) := by
    intro q
    rw [Bool.and_eq_true, Bool.and_eq_true] at q
    have q1 : ((sIx items.size 0 lo : Nat) : Int) = 0 := eq_of_beq q.1.1
    have q2 : sIx items.size items.size hi - sIx items.size 0 lo = items.size := eq_of_beq q.2
    exact hw ⟨by omega, by omega⟩
  show wpAny _ _ (if (((sIx items.size 0 lo : Nat) : Int) == 0 && (1 : Int) == 1 && (sIx items.size items.size hi - sIx items.size 0 lo) == items.size) = true then _ else _) _ _ s
  rw [if_neg hno, pick_gen]
  first
    | exact wpAny_bind (m := Builtin.Tuple.tupleExact _) (wpAny_newObj_type (wpAny_pure ⟨_, rfl, wpAny_pure h⟩) htake)
    | exact wpAny_bind (m := Builtin.Tuple.tupleExact _) (wpAny_newObj_type (wpAny_bind (wpAny_pure (wpAny_pure ⟨_, rfl, wpAny_pure h⟩))) htake)
    | exact wpAny_bind (wpAny_bind (m := Builtin.Tuple.tupleExact _) (wpAny_newObj_type (wpAny_pure (wpAny_pure ⟨_, rfl, wpAny_pure h⟩)) htake))
    | exact wpAny_bind (wpAny_bind (m := Builtin.Tuple.tupleExact _) (wpAny_newObj_type (wpAny_pure ⟨_, rfl, wpAny_pure h⟩) htake))
end
end HT

namespace L2
open PySem PySem.Spec PyProof.Rows

/-! ### the parts of a slice -/
abbrev TO := St → Hp → (Option Int → Hp → Prop) → Prop
/-- a slice's part (left out, or an int) -/
def PO (X : Cx) (e : Option Expr) (t : TO) : Prop :=
  ∀ (pins : List (Addr × Obj)) (s : Shared) (σ : St) (H : Hp) (Q : Option Int → Hp → Prop), Inv X pins σ H s → t σ H Q →
    wpAny (model X.prog X.w) X.A (evalPart e X.env) (fun u s' => ∃ o H', Inv X pins σ H' s' ∧ IsPart u o ∧ Q o H') X.xe s
def tNoPart : TO := fun _ H Q => Q none H
def tPart (t : TE) : TO := fun σ H Q => t σ H fun x H1 => ∃ i, x = .int i ∧ Q (some i) H1

theorem intsAre_of {ns : List Int} : ∀ {us : List Value}, Vals (ns.map V.int) us → IntsAre us ns := by
  induction ns with
  | nil => intro us r; rw [List.map_nil] at r; cases r; exact .nil
  | cons n ns ih =>
    intro us r
    rw [List.map_cons] at r
    cases r with
    | cons r1 r2 =>
      obtain ⟨t, e⟩ := r1
      subst e
      exact .cons n t (ih r2)

section
variable {X : Cx} {e : Expr} {te : TE} {lo hi : Option Expr} {tl th : TO} {pos p2 : Pos}

theorem po_none : PO X none tNoPart := by
  intro pins s σ H Q I h
  rw [evalPart_none]
  exact wpAny_pure ⟨none, H, I, .none, h⟩
theorem po_some (h : PE X e te) : PO X (some e) (tPart te) := by
  intro pins s σ H Q I hw
  rw [evalPart_some]
  refine thn (h pins s σ H _ I hw) fun u s1 ⟨x, H1, I1, r1, q1⟩ => ?_
  obtain ⟨i, rfl, q⟩ := q1
  obtain ⟨t, rfl⟩ := r1
  exact ⟨some i, H1, I1, .int i t, q⟩

/-- what a slice of a value is, by values: the slice object stands at sl -/
def SlR (X : Cx) (r : V → Option Int → Option Int → Hp → VK → Prop) : Prop :=
  ∀ (pins : List (Addr × Obj)) (s : Shared) (σ : St) (H : Hp) (x : V) (v vl vu : Value) (lo hi : Option Int) (sl : Addr) (Q : VK), Inv X pins σ H s → RelV x v → s.heap.IsSliceOf sl vl vu .none → IsPart vl lo → IsPart vu hi → r x lo hi H Q →
    ∃ T id, typeLookup (.type T) "__getitem__" = pure (some (.builtin id)) ∧ s.TypeIs v T ∧ wpAny (model X.prog X.w) X.A (getItem v (.ref sl)) (EP X pins σ Q) X.xe s
def tSl (r : V → Option Int → Option Int → Hp → VK → Prop) (te : TE) (tl th : TO) : TE := fun σ H Q => te σ H fun x H1 => tl σ H1 fun l H2 => th σ H2 fun u H3 => r x l u H3 Q
/-- a[lo:hi], any a -/
theorem pe_slice {r : V → Option Int → Option Int → Hp → VK → Prop} (hr : SlR X r) (he : PE X e te) (hl : PO X lo tl) (hu : PO X hi th) : PE X (.Subscript e (.Slice lo hi none p2) pos) (tSl r te tl th) := by
  intro pins s σ H Q I h
  refine Subscript_ (thn (he pins s σ H _ I h) fun v s1 ⟨x, H1, I1, r1, q1⟩ => ?_)
  refine wpAny_Slice (thn (hl pins s1 σ H1 _ I1 q1) fun vl s2 ⟨l, H2, I2, pl, q2⟩ => thn (hu pins s2 σ H2 _ I2 q2) fun vu s3 ⟨u, H3, I3, pu, q3⟩ => ?_)
  rw [evalPart_none]
  refine wpAny_pure ?_
  have I4 : Inv X pins σ H3 { s3 with heap := s3.heap.push { cls := .type "slice", data := .fields #[vl, vu, .none] } } := I3.kept (t' := s3.toks) fun b ob q => Heap.get?_push_of_some _ q
  obtain ⟨T, id, hT, ht, hg⟩ := hr pins { s3 with heap := s3.heap.push { cls := .type "slice", data := .fields #[vl, vu, .none] } } σ H3 x v vl vu l u s3.heap.objs.size Q I4 r1 (Heap.IsSliceOf.new ..) pl pu q3
  show wpAny (model X.prog X.w) X.A (subscriptTail e (.Slice lo hi none p2) v (.ref s3.heap.objs.size)) (EP X pins σ Q) X.xe { s3 with heap := s3.heap.push { cls := .type "slice", data := .fields #[vl, vu, .none] } }
  exact tail_any (ops := [.ref s3.heap.objs.size, v]) ht hT hg (by with_unfolding_all rfl)

/-- the items of xs[lo:hi] -/
def cutV (xs : List V) (lo hi : Option Int) : List V := (xs.drop (HT.sIx xs.length 0 lo)).take (HT.sIx xs.length xs.length hi - HT.sIx xs.length 0 lo)
theorem cutV_length (xs : List V) (lo hi : Option Int) : (cutV xs lo hi).length ≤ xs.length := by
  unfold cutV
  rw [List.length_take, List.length_drop]
  omega
/-- t[lo:hi], not the whole of it (the whole would be t itself) -/
def rSlT (K : PySem.W.Frag) : V → Option Int → Option Int → Hp → VK → Prop := fun x lo hi H Q => ∃ a xs, x = .ref a ∧ SqT K H a xs ∧
  ¬ (HT.sIx xs.length 0 lo = 0 ∧ HT.sIx xs.length xs.length hi = xs.length) ∧ ∀ p, H p = none → Q (.ref p) (upd H p (.tup (cutV xs lo hi)))
theorem sl_tup : SlR X (rSlT X.K) := by
  intro pins s σ H x v vl vu lo hi sl Q I rx hs pl pu h
  obtain ⟨a, xs, rfl, hx, hw, q⟩ := h
  cases rx
  obtain ⟨its, r, ht, hz⟩ := I.tuple hx
  have hlen : its.toArray.size = xs.length := by rw [List.size_toArray]; exact r.length.symm
  refine ⟨"tuple", _, PyProof.Rows.slot_tuple_getitem.lookup, ht.typeIs, ?_⟩
  refine HT.getItem_tuple_cut ht hs pl pu (by rw [hlen]; exact hw) ?_ (by rw [hlen]; exact hz)
  rw [hlen]
  refine ⟨.ref s.heap.objs.size, _, I.laid (t' := s.toks) (o := .tup (cutV xs lo hi)) (fun b ob q => Heap.get?_push_of_some _ q) (Nat.le_refl _) ?_, rfl, q _ (I.hok.fresh (Nat.le_refl _))⟩
  exact ⟨Nat.le_trans (cutV_length xs lo hi) hz, _, (r.drop (HT.sIx xs.length 0 lo)).take (HT.sIx xs.length xs.length hi - HT.sIx xs.length 0 lo), IsTup.new _ _⟩

/-! ### t < u, t + u -/
/-- t + u, t not empty: u empty gives t itself -/
def rCatT (K : PySem.W.Frag) : R2 := fun x y H Q => ∃ a b xs ys, x = .ref a ∧ y = .ref b ∧ SqT K H a xs ∧ SqT K H b ys ∧ xs ≠ [] ∧ xs.length + ys.length ≤ sizeLine ∧
  (ys = [] → Q (.ref a) H) ∧ (ys ≠ [] → ∀ p, H p = none → Q (.ref p) (upd H p (.tup (xs ++ ys))))
theorem Vals.nil_iff {xs : List V} {us : List Value} (r : Vals xs us) : us = [] ↔ xs = [] := by
  cases r with
  | nil => simp
  | cons _ _ => simp
theorem op_catT : OpR X (binaryOp .Add) (rCatT X.K) := by
  intro pins s σ H x y v u Q I rx ry h
  obtain ⟨a, b, xs, ys, rfl, rfl, ha, hb, hx, hz, q1, q2⟩ := h
  cases rx
  cases ry
  obtain ⟨its, r1, p1, _⟩ := I.tuple ha
  obtain ⟨its2, r2, p2, _⟩ := I.tuple hb
  refine HT.cat_tup p1 p2 (fun z => hx (r1.nil_iff.mp z)) (fun z => ⟨.ref a, H, I, rfl, q1 (r2.nil_iff.mp z)⟩) (fun z => ?_) (by rw [← r1.length, ← r2.length]; exact hz)
  refine ⟨.ref s.heap.objs.size, _, I.laid (t' := s.toks) (o := .tup (xs ++ ys)) (fun b ob q => Heap.get?_push_of_some _ q) (Nat.le_refl _) ?_, rfl, q2 (fun w => z (r2.nil_iff.mpr w)) _ (I.hok.fresh (Nat.le_refl _))⟩
  exact ⟨by rw [List.length_append]; exact hz, _, r1.append r2, IsTup.new _ _⟩
end
end L2

namespace L2
open PySem PySem.Spec PyProof.Rows

/-! ### places -/
/-- the place that an index of any sign means -/
def ixN (n : Nat) (i : Int) : Option Nat := if 0 ≤ i then (if i < n then some i.toNat else none) else if -(n : Int) ≤ i then some (i + n).toNat else none
def atI {α : Type} (xs : List α) (i : Int) : Option α := (ixN xs.length i).bind fun j => xs[j]?
theorem ixN_seq {n : Nat} {i : Int} {j : Nat} (h : ixN n i = some j) : seqIndex? i n = some j ∧ j < n ∧ -(n : Int) ≤ i ∧ i < n := by
  unfold ixN at h
  by_cases h0 : 0 ≤ i
  · rw [if_pos h0] at h
    by_cases h1 : i < n
    · rw [if_pos h1] at h
      have e : i.toNat = j := Option.some.inj h
      exact ⟨by rw [seqIndex_of h0 h1, e], by omega, by omega, h1⟩
    · rw [if_neg h1] at h; cases h
  · rw [if_neg h0] at h
    by_cases h1 : -(n : Int) ≤ i
    · rw [if_pos h1] at h
      have e : (i + n).toNat = j := Option.some.inj h
      exact ⟨by rw [seqIndex_neg (by omega) h1, e], by omega, h1, by omega⟩
    · rw [if_neg h1] at h; cases h
theorem atI_get {α : Type} {xs : List α} {i : Int} {v : α} (h : atI xs i = some v) : ∃ j, seqIndex? i xs.length = some j ∧ xs[j]? = some v ∧ j < xs.length ∧ -(xs.length : Int) ≤ i ∧ i < xs.length := by
  unfold atI at h
  cases e : ixN xs.length i with
  | none => rw [e] at h; cases h
  | some j =>
    rw [e] at h
    obtain ⟨h1, h2, h3, h4⟩ := ixN_seq e
    exact ⟨j, h1, h, h2, h3, h4⟩
theorem atI_nat {α : Type} {xs : List α} {j : Nat} {v : α} (h : xs[j]? = some v) : atI xs (j : Int) = some v := by
  have hj : j < xs.length := (List.getElem?_eq_some_iff.mp h).1
  have e : ixN xs.length (j : Int) = some j := by
    unfold ixN
    rw [if_pos (by omega), if_pos (by omega)]; simp
  unfold atI; rw [e]; exact h
/-! ### what may be subscripted -/
/-- what stands as an index of a plain subscript -/
def PlainIx (b : Expr) : Prop := ∀ o i, subscripted b false o i = operate [o, i] (getItem o i)
/-- a subscript by values -/
def IxR (X : Cx) (r : R2) : Prop :=
  ∀ (value slice : Expr) (pins : List (Addr × Obj)) (s : Shared) (σ : St) (H : Hp) (x y : V) (v u : Value) (Q : VK), Inv X pins σ H s → RelV x v → RelV y u → r x y H Q →
    subscripted slice false v u = operate [v, u] (getItem v u) → wpAny (model X.prog X.w) X.A (subscriptTail value slice v u) (EP X pins σ Q) X.xe s
/-- a call of a builtin's method by values: the receiver, the arguments -/
def MtR (X : Cx) (id : String) (r : V → List V → Hp → VK → Prop) : Prop :=
  ∀ (pins : List (Addr × Obj)) (s : Shared) (σ : St) (H : Hp) (x : V) (xs : List V) (v : Value) (us : List Value) (Q : VK), Inv X pins σ H s → RelV x v → Vals xs us → r x xs H Q →
    wpAny (model X.prog X.w) X.A (call (.builtin id) (v :: us)) (EP X pins σ Q) X.xe s
section
variable {X : Cx} {a b : Expr} {ta tb : TE} {pos : Pos}
/-- a[b] -/
theorem pe_ix {r : R2} (hr : IxR X r) (ha : PE X a ta) (hb : PE X b tb) (hs : PlainIx b) : PE X (.Subscript a b pos) (tOp r ta tb) := by
  intro pins s σ H Q I h
  exact Subscript_ (binT ha hb I h fun v u s2 x y H2 I2 rx ry q => hr a b pins s2 σ H2 x y v u Q I2 rx ry q (hs _ _))

def rIxL (K : PySem.W.Frag) : R2 := fun x y H Q => ∃ p xs i v, x = .ref p ∧ y = .int i ∧ SqL K H p xs ∧ atI xs i = some v ∧ Q v H
def rIxT (K : PySem.W.Frag) : R2 := fun x y H Q => ∃ p xs i v, x = .ref p ∧ y = .int i ∧ SqT K H p xs ∧ atI xs i = some v ∧ Q v H
theorem ix_list : IxR X (rIxL X.K) := by
  intro value slice pins s σ H x y v u Q I rx ry h hs
  obtain ⟨p, xs, i, z, rfl, rfl, hq, he, q⟩ := h
  cases rx
  obtain ⟨t, rfl⟩ := ry
  obtain ⟨its, r, pl, hz⟩ := I.list hq
  obtain ⟨j, h1, h2, h3, h4, h5⟩ := atI_get he
  obtain ⟨w, ew, rw'⟩ := r.get h2
  have hl := r.length
  have hn := line63
  have fin : EP X pins σ Q w s := ⟨z, H, I, rw', q⟩
  by_cases h0 : 0 ≤ i
  · have hj : i.toNat = j := by
      rw [seqIndex_of h0 h5] at h1
      exact Option.some.inj h1
    exact item_listR pl.isList h0 (by omega) (by rw [hj]; simpa using ew) fin hs
  · have hj : (i + (its.toArray.size : Int)).toNat = j := by
      rw [seqIndex_neg (by omega) h4] at h1
      rw [List.size_toArray, ← hl]
      exact Option.some.inj h1
    exact subscriptTail_builtinR (x := w) pl.isList.typeIs slot_list_getitem.lookup
      (wpAny_getItem_list_neg (Q := fun r s' => r = w ∧ EP X pins σ Q r s') pl.isList (by omega) (by rw [List.size_toArray] <;> omega) (by omega) (by rw [hj]; simpa using ew) ⟨rfl, fin⟩) hs
theorem ix_tup : IxR X (rIxT X.K) := by
  intro value slice pins s σ H x y v u Q I rx ry h hs
  obtain ⟨p, xs, i, z, rfl, rfl, hq, he, q⟩ := h
  cases rx
  obtain ⟨t, rfl⟩ := ry
  obtain ⟨its, r, pl, hz⟩ := I.tuple hq
  obtain ⟨j, h1, h2, h3, h4, h5⟩ := atI_get he
  obtain ⟨w, ew, rw'⟩ := r.get h2
  have hl := r.length
  have hn := line63
  have fin : EP X pins σ Q w s := ⟨z, H, I, rw', q⟩
  exact subscriptTail_builtinR (x := w) pl.typeIs slot_tuple_getitem.lookup
    (getItem_tuple (j := j) (Q := fun r s' => r = w ∧ EP X pins σ Q r s') pl (by omega) (by omega) (by rw [List.size_toArray, ← hl]; exact h1) (by simpa using ew) ⟨rfl, fin⟩) hs
/-! ### xs[i] = v, any sign -/
/-! ### slices -/
theorem slice_bounds (lo hi : Option Int) (n : Nat) : (sliceBounds lo hi none n).1 = ((HT.sIx n 0 lo : Nat) : Int) ∧ (sliceBounds lo hi none n).2.1 = ((HT.sIx n n hi : Nat) : Int) ∧ (sliceBounds lo hi none n).2.2 = 1 := by
  refine ⟨?_, ?_, rfl⟩
  · cases lo with
    | none => simp [sliceBounds, HT.sIx]
    | some i =>
      simp only [sliceBounds, HT.sIx, Option.getD_none, show (1 : Int) > 0 by decide, if_true]
      by_cases h : i < 0
      · simp only [h, if_true] <;> omega
      · simp only [h, if_false] <;> omega
  · cases hi with
    | none => simp [sliceBounds, HT.sIx]
    | some i =>
      simp only [sliceBounds, HT.sIx, Option.getD_none, show (1 : Int) > 0 by decide, if_true]
      by_cases h : i < 0
      · simp only [h, if_true] <;> omega
      · simp only [h, if_false] <;> omega
theorem slicePick_cut (its : List Value) (lo hi : Option Int) : slicePick its.toArray lo hi none = ((its.drop (HT.sIx its.length 0 lo)).take (HT.sIx its.length its.length hi - HT.sIx its.length 0 lo)).toArray := by
  obtain ⟨h1, h2, h3⟩ := slice_bounds lo hi its.toArray.size
  unfold slicePick
  rw [h1, h2, h3]
  simp only [sliceRange_one, pick_run, List.size_toArray] <;> rfl
/-- xs[lo:hi] of a list: a new list -/
def rSlL (K : PySem.W.Frag) : V → Option Int → Option Int → Hp → VK → Prop := fun x lo hi H Q => ∃ a xs, x = .ref a ∧ SqL K H a xs ∧ ∀ p, H p = none → Q (.ref p) (upd H p (.lst (cutV xs lo hi)))
theorem sl_list : SlR X (rSlL X.K) := by
  intro pins s σ H x v vl vu lo hi sl Q I rx hs pl pu h
  obtain ⟨a, xs, rfl, hx, q⟩ := h
  cases rx
  obtain ⟨its, r, ht, hz⟩ := I.list hx
  have hlen := r.length
  refine ⟨"list", _, slot_list_getitem.lookup, ht.isList.typeIs, ?_⟩
  refine wpAny_getItem_list_slice ht.isList hs pl pu .none (by simp) ?_ (by rw [List.size_toArray] <;> omega)
  rw [slicePick_cut, ← hlen]
  refine ⟨.ref s.heap.objs.size, _, I.laid (t' := s.toks) (o := .lst (cutV xs lo hi)) (fun b ob q => Heap.get?_push_of_some _ q) (Nat.le_refl _) ?_, rfl, q _ (I.hok.fresh (Nat.le_refl _))⟩
  exact ⟨Nat.le_trans (cutV_length xs lo hi) hz, _, 0, (r.drop (HT.sIx xs.length 0 lo)).take (HT.sIx xs.length xs.length hi - HT.sIx xs.length 0 lo), Heap.get?_push_size _ rfl⟩

/-! ### in, not in: flat items -/
def flatV : V → Bool
  | .non => true
  | .bl _ => true
  | .int _ => true
  | .str _ => true
  | _ => false
/-- == of flat values -/
def eqV : V → V → Bool
  | .non, .non => true
  | .bl a, .bl b => a == b
  | .bl a, .int b => (if a then 1 else 0) == b
  | .int a, .bl b => a == (if b then 1 else 0)
  | .int a, .int b => a == b
  | .str a, .str b => a == b
  | _, _ => false
theorem eqAt_V {A : Around} {s : Shared} {y x : V} {u v : Value} (ry : RelV y u) (rx : RelV x v) (fy : flatV y = true) (fx : flatV x = true) : SeqAt.EqAt A s u v (eqV y x) := by
  cases y with
  | non =>
    cases ry
    cases x with
    | non => cases rx; exact SeqAt.EqAt.same _
    | bl b => cases rx; exact SeqAt.EqAt.none_bool b
    | int b => obtain ⟨t, rfl⟩ := rx; exact SeqAt.EqAt.none_int b t
    | str b => obtain ⟨t, rfl⟩ := rx; exact SeqAt.EqAt.none_str b t
    | _ => exact absurd (show false = true from fx) Bool.false_ne_true
  | bl a =>
    cases ry
    cases x with
    | non => cases rx; exact SeqAt.EqAt.bool_none a
    | bl b => cases rx; exact SeqAt.EqAt.bool_bool a b
    | int b => obtain ⟨t, rfl⟩ := rx; exact SeqAt.EqAt.bool_int a b t
    | str b => obtain ⟨t, rfl⟩ := rx; exact SeqAt.EqAt.bool_str a b t
    | _ => exact absurd (show false = true from fx) Bool.false_ne_true
  | int a =>
    obtain ⟨t', rfl⟩ := ry
    cases x with
    | non => cases rx; exact SeqAt.EqAt.int_none a t'
    | bl b => cases rx; exact SeqAt.EqAt.int_bool a t' b
    | int b => obtain ⟨t, rfl⟩ := rx; exact SeqAt.EqAt.int_int a t' b t
    | str b => obtain ⟨t, rfl⟩ := rx; exact SeqAt.EqAt.int_str a t' b t
    | _ => exact absurd (show false = true from fx) Bool.false_ne_true
  | str a =>
    obtain ⟨t', rfl⟩ := ry
    cases x with
    | non => cases rx; exact SeqAt.EqAt.str_none a t'
    | bl b => cases rx; exact SeqAt.EqAt.str_bool a t' b
    | int b => obtain ⟨t, rfl⟩ := rx; exact SeqAt.EqAt.str_int a t' b t
    | str b => obtain ⟨t, rfl⟩ := rx; exact SeqAt.EqAt.str_str a t' b t
    | _ => exact absurd (show false = true from fx) Bool.false_ne_true
  | _ => exact absurd (show false = true from fy) Bool.false_ne_true
/-- the items' answers, read off the values (a value's own answer does not lean on its token) -/
def eqU (x : V) (u : Value) : Bool := match u with
  | .none => eqV .non x
  | .bool b => eqV (.bl b) x
  | .int i _ => eqV (.int i) x
  | .str z _ => eqV (.str z) x
  | _ => false
theorem eqU_of {x y : V} {u : Value} (r : RelV y u) (f : flatV y = true) : eqU x u = eqV y x := by
  cases y with
  | non => cases r; rfl
  | bl b => cases r; rfl
  | int i => obtain ⟨t, rfl⟩ := r; rfl
  | str z => obtain ⟨t, rfl⟩ := r; rfl
  | _ => exact absurd (show false = true from f) Bool.false_ne_true
theorem any_eqU {x : V} : ∀ {xs : List V} {us : List Value}, Vals xs us → xs.all flatV = true → us.any (eqU x) = xs.any fun y => eqV y x
  | _, _, .nil, _ => rfl
  | y :: xs, u :: us, .cons r t, f => by
    rw [List.all_cons, Bool.and_eq_true] at f
    rw [List.any_cons, List.any_cons, eqU_of r f.1, any_eqU t f.2]
theorem mem_eqAt {A : Around} {s : Shared} {x : V} {v : Value} (rx : RelV x v) (fx : flatV x = true) : ∀ {xs : List V} {us : List Value}, Vals xs us → xs.all flatV = true → ∀ u ∈ us, SeqAt.EqAt A s u v (eqU x u)
  | _, _, .nil, _ => fun u hu => by cases hu
  | y :: xs, u :: us, .cons r t, f => fun u' hu => by
    rw [List.all_cons, Bool.and_eq_true] at f
    rcases List.mem_cons.mp hu with rfl | hu
    · rw [eqU_of r f.1]; exact eqAt_V r rx f.1 fx
    · exact mem_eqAt rx fx t f.2 u' hu
def inV (x : V) (xs : List V) : Bool := xs.any fun y => eqV y x
/-- x in a list or tuple of flat items -/
def rIn (K : PySem.W.Frag) (neg : Bool) : R2 := fun x y H Q => ∃ p xs, y = .ref p ∧ (SqL K H p xs ∨ SqT K H p xs) ∧ flatV x = true ∧ xs.all flatV = true ∧ Q (.bl (if neg then !inV x xs else inV x xs)) H
theorem op_notIn_seq : OpR X (compareOp .NotIn) (rIn X.K true) := by
  intro pins s σ H x y v u Q I rx ry h
  obtain ⟨p, xs, rfl, hq, fx, fs, q⟩ := h
  cases ry
  rcases hq with hq | hq
  · obtain ⟨its, r, pl, hz⟩ := I.list hq
    refine SeqAt.notIn_listAt (eqU x) pl.isList (fun w hw => mem_eqAt rx fx r fs w (by simpa using hw)) ⟨.bl _, H, I, rfl, ?_⟩
    rw [show its.toArray.any (eqU x) = its.any (eqU x) by simp, any_eqU r fs]
    exact q
  · obtain ⟨its, r, pl, hz⟩ := I.tuple hq
    refine SeqAt.notIn_tupleAt (eqU x) pl (fun w hw => mem_eqAt rx fx r fs w (by simpa using hw)) ⟨.bl _, H, I, rfl, ?_⟩
    rw [show its.toArray.any (eqU x) = its.any (eqU x) by simp, any_eqU r fs]
    exact q
/-! ### len, list(x), tuple(x) of any list or tuple that is read -/
theorem call_len_seq : CallR X (.builtin "len") (fun xs H Q => ∃ p ys, xs = [.ref p] ∧ (SqL X.K H p ys ∨ SqT X.K H p ys) ∧ Q (.int ys.length) H) := by
  intro pins s σ H xs us Q I r h
  obtain ⟨p, ys, rfl, hq, q⟩ := h
  obtain ⟨u, rfl, rx⟩ := vals1 r
  cases rx
  have hn := line63
  rcases hq with hq | hq
  · obtain ⟨its, r', pl, hz⟩ := I.list hq
    have hlen := r'.length
    exact Calls.call_len_list pl.isList (by simp only [List.size_toArray] <;> omega) ⟨.int ys.length, H, I.tok _, ⟨s.toks + 1, by rw [List.size_toArray, hlen]⟩, q⟩
  · obtain ⟨its, r', pl, hz⟩ := I.tuple hq
    have hlen := r'.length
    exact len_tuple pl (by simp only [List.size_toArray] <;> omega) ⟨.int ys.length, H, I.tok _, ⟨s.toks + 1, by rw [List.size_toArray, hlen]⟩, q⟩
theorem call_list_of : CallR X (.type "list") (fun xs H Q => ∃ p ys, xs = [.ref p] ∧ (SqL X.K H p ys ∨ SqT X.K H p ys) ∧ ∀ l, H l = none → Q (.ref l) (upd H l (.lst ys))) := by
  intro pins s σ H xs us Q I r h
  obtain ⟨p, ys, rfl, hq, q⟩ := h
  obtain ⟨u, rfl, rx⟩ := vals1 r
  cases rx
  have fin : ∀ (its : List Value), Vals ys its → ys.length ≤ sizeLine → ∀ (h' : Heap) (c' : Nat), (∀ b o', s.heap.get? b = some o' → h'.get? b = some o') →
      h'.get? s.heap.objs.size = some { cls := .type "list", dict := none, data := .seq its.toArray c', slots := #[] } → EP X pins σ Q (.ref s.heap.objs.size) { s with heap := h' } := fun its r' hz h' c' kp e =>
    ⟨.ref s.heap.objs.size, _, I.laid (t' := s.toks) kp (Nat.le_refl _) (show ObjOk X.prog X.w _ h' _ (.lst ys) from ⟨hz, its, c', r', e⟩), rfl, q _ (I.hok.fresh (Nat.le_refl _))⟩
  rcases hq with hq | hq
  · obtain ⟨its, r', pl, hz⟩ := I.list hq
    have hlen := r'.length
    obtain ⟨o, ho, hc, n, hd⟩ := pl.isList
    exact call_list_seq p (.inl rfl) ho hc hd (fun h' c' kp e => fin its r' hz h' c' kp e) (by simp only [List.size_toArray] <;> omega)
  · obtain ⟨its, r', pl, hz⟩ := I.tuple hq
    have hlen := r'.length
    obtain ⟨o, ho, hc, n, hd⟩ := pl
    exact call_list_seq p (.inr rfl) ho hc hd (fun h' c' kp e => fin its r' hz h' c' kp e) (by simp only [List.size_toArray] <;> omega)
theorem call_tuple_of : CallR X (.type "tuple") (fun xs H Q => ∃ p ys, xs = [.ref p] ∧ ((SqL X.K H p ys ∧ ∀ l, H l = none → Q (.ref l) (upd H l (.tup ys))) ∨ (SqT X.K H p ys ∧ Q (.ref p) H))) := by
  intro pins s σ H xs us Q I r h
  obtain ⟨p, ys, rfl, h⟩ := h
  obtain ⟨u, rfl, rx⟩ := vals1 r
  cases rx
  rcases h with ⟨hq, q⟩ | ⟨hq, q⟩
  · obtain ⟨its, r', pl, hz⟩ := I.list hq
    have hlen := r'.length
    refine call_tuple_list pl.isList (fun h' kp => ?_) (by simp only [List.size_toArray] <;> omega)
    have I1 : Inv X pins σ H { s with heap := h' } := I.kept (t' := s.toks) kp
    have I2 : Inv X pins σ (upd H h'.objs.size (.tup ys)) { s with heap := h'.push { cls := .type "tuple", data := .seq its.toArray } } :=
      I1.laid (t' := s.toks) (fun b o e => Heap.get?_push_of_some _ e) (Nat.le_refl _) (show ObjOk X.prog X.w _ _ _ (.tup ys) from ⟨hz, its, r', IsTup.new _ _⟩)
    exact ⟨.ref h'.objs.size, _, I2, rfl, q _ (I1.hok.fresh (Nat.le_refl _))⟩
  · obtain ⟨its, r', pl, hz⟩ := I.tuple hq
    exact call_tuple_same pl ⟨.ref p, H, I, rfl, q⟩

/-! ### the call of a builtin's method: o.m(..) -/
/-- the value is of that builtin type -/
def tyV (K : PySem.W.Frag) (T : String) (x : V) (H : Hp) : Prop := match x with
  | .str _ => T = "str"
  | .int _ => T = "int"
  | .ref p => (T = "list" ∧ ∃ xs, SqL K H p xs) ∨ (T = "tuple" ∧ ∃ o, K.lookup p = some o ∧ o.cls = .type "tuple" ∧ o.dict = none) ∨
      (T = "dict" ∧ ((∃ kvs, H p = some (.dK kvs)) ∨ ∃ kvs, H p = some (.dT kvs))) ∨ (T = "set" ∧ ∃ S n, H p = some (.set S n))
  | _ => False
theorem tyV_is {pins : List (Addr × Obj)} {σ : St} {H : Hp} {s : Shared} {T : String} {x : V} {v : Value} (I : Inv X pins σ H s) (r : RelV x v) (ty : tyV X.K T x H) :
    s.TypeIs v T ∧ ∀ a, v = .ref a → ∃ ob, s.heap.get? a = some ob ∧ ob.dict = none := by
  cases x with
  | str z =>
    obtain ⟨t, rfl⟩ := r
    cases (show T = "str" from ty)
    exact ⟨typeIs_str s z t, fun _ e => nomatch e⟩
  | int i =>
    obtain ⟨t, rfl⟩ := r
    cases (show T = "int" from ty)
    exact ⟨typeIs_int s i t, fun _ e => nomatch e⟩
  | ref p =>
    cases r
    rcases ty with ⟨rfl, xs, hq⟩ | ⟨rfl, o, hk, hc, hd⟩ | ⟨rfl, hk⟩ | ⟨rfl, S, n, hk⟩
    · obtain ⟨its, _, pl, _⟩ := I.list hq
      refine ⟨pl.isList.typeIs, fun a e => ?_⟩
      cases e
      obtain ⟨o, n, e, c, hd, _⟩ := pl
      exact ⟨o, e, hd⟩
    · refine ⟨⟨o, I.kIn p o hk, hc⟩, fun a e => ?_⟩
      cases e
      exact ⟨o, I.kIn _ o hk, hd⟩
    · have z : ∃ o, s.heap.get? p = some o ∧ o.ExactDict := by
        rcases hk with ⟨kvs, hk⟩ | ⟨kvs, hk⟩
        · obtain ⟨_, _, _, _, o, _, _, e, ex, _⟩ := I.hok p _ hk
          exact ⟨o, e, ex⟩
        · obtain ⟨_, _, _, _, o, _, _, e, ex, _⟩ := I.hok p _ hk
          exact ⟨o, e, ex⟩
      obtain ⟨o, e, ex⟩ := z
      refine ⟨⟨o, e, ex.1⟩, fun a e2 => ?_⟩
      cases e2
      exact ⟨o, e, ex.2.1⟩
    · obtain ⟨o, _, _, _, e, ex, _⟩ := I.hok p _ hk
      refine ⟨⟨o, e, ex.1⟩, fun a e2 => ?_⟩
      cases e2
      exact ⟨o, e, ex.2.1⟩
  | _ => exact False.elim ty
def tBM (K : PySem.W.Frag) (T : String) (r : V → List V → Hp → VK → Prop) (to : TE) (t : TA) : TE := fun σ H Q => to σ H fun x H1 => tyV K T x H1 ∧ t σ H1 fun xs H2 => r x xs H2 Q
variable {o e : Expr} {es : List Expr} {to : TE} {t : TA} {name : Str} {apos cpos : Pos} {T id : String} {r : V → List V → Hp → VK → Prop}
theorem pe_bm (pa : PlainAttrs T) (slot : Slot T name id) (hty : typeOf (.builtin id) = pure (.type "method_descriptor")) (hm : MtR X id r) (ho : PE X o to) (ha : PA X (e :: es) t)
    (hbase : attributeBase o name X.env (eval o X.env) = eval o X.env := by rfl)
    (hfew : ((backTo cpos (starEach (e :: es) X.env)).all (fun x => !x.1) && (backToKw cpos (keywordEach [] X.env)).all (fun x => x.1.isSome)
      && decide ((e :: es).length + ([] : List Keyword).length + (if ([] : List Keyword).isEmpty then 0 else 1) < 30)) = true := by rfl)
    (hline : (apos.endLine == cpos.line) = true := by rfl) (hs : starEach (e :: es) X.env = (false, eval e X.env) :: starEach es X.env := by rfl) (hplain : (backTo cpos (starEach es X.env)).any (·.1) = false := by rfl) :
    PE X (.Call (.Attribute o name apos) (e :: es) [] cpos) (tBM X.K T r to t) := by
  intro pins s σ H Q I h
  refine wpAny_Call_method_late hbase hfew hline rfl (thn (ho pins s σ H _ I h) fun v s1 ⟨x, H1, I1, r1, ty, q1⟩ => ?_)
  obtain ⟨h1, h2⟩ := tyV_is I1 r1 ty
  refine ⟨T, id, pa, slot, hty, h1, h2, ?_⟩
  have hA := ha cpos pins s1 σ H1 _ I1 q1
  rw [hs] at hA ⊢
  refine Calls.callWith_builtin (by show (false || (backTo cpos (starEach es X.env)).any (·.1)) = false; rw [hplain] <;> rfl) (Calls.evalArgs_plain ?_)
  exact thn hA fun us s2 ⟨vs, H2, I2, r2, q2⟩ => hm pins s2 σ H2 x vs v us Q I2 r1 r2 q2
/- xs.append(e), list.index on a module's tuple .. are MtR facts of 06m -/
end
end L2

namespace L2
open PySem PySem.Spec PyProof.Rows

def MtM (X : Cx) (id : String) (r : V → List V → Hp → VK → Prop) : Prop :=
  ∀ (pins : List (Addr × Obj)) (s : Shared) (σ : St) (H : Hp) (x : V) (xs : List V) (v : Value) (us : List Value) (Q : VK), Inv X pins σ H s → RelV x v → Vals xs us → r x xs H Q →
    wpAny (model X.prog X.w) X.A (call (.builtin id) (v :: us)) (EP X pins σ Q) X.xe s

/-! ### lists of values -/
theorem Vals.one : ∀ {x : V} {us : List Value}, Vals [x] us → ∃ u, us = [u] ∧ RelV x u
  | _, _, .cons r .nil => ⟨_, rfl, r⟩
theorem Vals.two : ∀ {x y : V} {us : List Value}, Vals [x, y] us → ∃ u v, us = [u, v] ∧ RelV x u ∧ RelV y v
  | _, _, _, .cons r (.cons q .nil) => ⟨_, _, rfl, r, q⟩
theorem Vals.reverse {xs : List V} {us : List Value} (h : Vals xs us) : Vals xs.reverse us.reverse := by
  induction h with
  | nil => exact .nil
  | cons r t ih => rw [List.reverse_cons, List.reverse_cons]; exact Vals.append ih (.cons r .nil)
section
variable {X : Cx} {pins : List (Addr × Obj)} {σ : St} {H : Hp} {s : Shared} {l b : Addr} {xs ys zs : List V}

/-! ### the two steps: a tracked list is rewritten, a new list is laid -/
theorem Inv.lset {its its' : List Value} {n : Nat} {f : Array Value → Array Value} {t' : Nat} (I : Inv X pins σ H s) (hH : H l = some (.lst xs))
    (e : s.heap.get? l = some { cls := .type "list", data := .seq its.toArray n }) (hf : f its.toArray = its'.toArray) (hv : Vals ys its') (hz : ys.length ≤ sizeLine) :
    Inv X pins σ (upd H l (.lst ys)) { s with heap := s.heap.update l (Obj.mapSeq f), toks := t' } := by
  have q := PySem.IsL.update e f
  rw [hf] at q
  refine I.write (x := l) (e := l) (by rw [hH]; exact trivial) (.inl rfl) (fun b' u hb hu => (Heap.get?_update_other s.heap (Obj.mapSeq f) (Ne.symm hb)).trans hu) ⟨_, q⟩ ?_
  exact ⟨hz, its', _, hv, q⟩
theorem Inv.lnew {its : List Value} {t' : Nat} (I : Inv X pins σ H s) (hv : Vals ys its) (hz : ys.length ≤ sizeLine) :
    Inv X pins σ (upd H s.heap.objs.size (.lst ys)) { s with heap := s.heap.push { cls := .type "list", data := .seq its.toArray }, toks := t' } :=
  I.laid (fun _ _ q => Heap.get?_push_of_some _ q) (Nat.le_refl _) ⟨hz, its, 0, hv, Heap.get?_push_size _ rfl⟩
theorem Inv.fresh (I : Inv X pins σ H s) : H s.heap.objs.size = none := I.hok.fresh (Nat.le_refl _)
theorem Inv.lstM (I : Inv X pins σ H s) (hH : H l = some (.lst xs)) : xs.length ≤ sizeLine ∧ ∃ (its : List Value) (n : Nat), Vals xs its ∧ xs.length = its.length ∧ s.heap.get? l = some { cls := .type "list", data := .seq its.toArray n } := by
  obtain ⟨z, its, n, r, e⟩ := I.hok l _ hH
  exact ⟨z, its, n, r, r.length, e⟩

end

section
variable {X : Cx}

/-! ### methods -/
def rAppend : V → List V → Hp → VK → Prop := fun x vs H Q => ∃ l xs y, x = .ref l ∧ vs = [y] ∧ H l = some (.lst xs) ∧ xs.length < sizeLine ∧ Q .non (upd H l (.lst (xs ++ [y])))
theorem mt_append : MtM X "list.append" rAppend := by
  intro pins s σ H x vs v us Q I rx rv h
  obtain ⟨l, xs, y, rfl, rfl, hH, hz, q⟩ := h
  cases rx
  obtain ⟨u, rfl, ru⟩ := rv.one
  obtain ⟨z, its, n, r, hl, e⟩ := I.lstM hH
  refine call_meets F.slot_list_append ⟨_, e, rfl⟩ F.entry_list_append (F.args_list_append_2 _ _) (PySem.list_append l its.toArray n u (by rw [List.size_toArray]; omega)) ⟨e, ?_⟩
  refine ⟨.non, _, I.lset (its' := its ++ [u]) hH e (by simp) (r.append (.cons ru .nil)) ?_, rfl, q⟩
  rw [List.length_append, List.length_singleton]
  omega

/-! ### list + list, list += list, list * int -/
def rCat : R2 := fun x y H Q => ∃ l b xs zs, x = .ref l ∧ y = .ref b ∧ H l = some (.lst xs) ∧ H b = some (.lst zs) ∧ xs.length + zs.length ≤ sizeLine ∧ ∀ p, H p = none → Q (.ref p) (upd H p (.lst (xs ++ zs)))
theorem op_cat : OpR X (binaryOp .Add) rCat := by
  intro pins s σ H x y v u Q I rx ry h
  obtain ⟨l, b, xs, zs, rfl, rfl, hH, hB, hz, q⟩ := h
  cases rx
  cases ry
  obtain ⟨z, its, n, r, hl, e⟩ := I.lstM hH
  obtain ⟨z2, its2, n2, r2, hl2, e2⟩ := I.lstM hB
  refine PySem.P.add_list e e2 ?_ (by rw [List.size_toArray, List.size_toArray]; omega)
  have ea : its.toArray ++ its2.toArray = (its ++ its2).toArray := by simp
  rw [ea]
  exact ⟨.ref _, _, I.lnew (t' := s.toks) (r.append r2) (by rw [List.length_append]; omega), rfl, q _ I.fresh⟩
/-! ### del xs[i] -/
end

/-! ### xs[a:b] = ys -/
section
variable {prog : Program} {w : World} {A : Around} {E : Value → Shared → Prop} {s : Shared}
set_option maxRecDepth 100000 in
end

section
variable {X : Cx}
end
end L2

namespace Att
open PySem PySem.W PySem.Calls PyProof.Rows

/-! ### the script -/
theorem ints_of_wellAll {P : Params} {h : Heap} : ∀ (ns : List Int) (vs : List Value), WellAll P h vs (ns.map WData.int) → IntsAre vs ns := by
  intro ns
  induction ns with
  | nil =>
    intro vs w
    rw [List.map_nil] at w
    cases w
    exact .nil
  | cons n ns ih =>
    intro vs w
    rw [List.map_cons] at w
    cases w with
    | cons a b =>
      cases a
      exact .cons _ _ (ih _ b)

theorem script_of {l : OpenLaw} {n : Nat} (hn : l.most = some n) {P : Params} {h : Heap} {args : List WData} {vals : List Value}
    (hpre : l.row.toRowW.claim.pre args = true) (hwl : WellAll P h vals args) :
    ∃ a vs ns, vals = [Value.ref a] ∧ args = [WData.list (ns.map WData.int)] ∧ h.get? a = some { cls := .type "list", data := .seq vs.toArray } ∧ IntsAre vs ns ∧ ns.length ≤ n := by
  have hsh : WShape.hasAll [] args [.list .int] = true := (pre_splitW hpre).1
  have hc : l.pre.holds [] { args := args } = true := (pre_splitW hpre).2
  obtain ⟨d, r, rfl, h1, h2⟩ := hasAllW_cons hsh
  obtain rfl := hasAllW_nil h2
  obtain ⟨xs, rfl, h3⟩ := hasW_list h1
  obtain ⟨ns, rfl⟩ := items_int h3
  have hlen : ns.length ≤ n := by
    unfold OpenLaw.pre at hc
    have h4 : (WTm.not (.lt (.lit (.int (n : Int))) (.len (.arg 0)))).holds [] { args := [.list (ns.map .int)] } = true := by
      have h4 := (holds_andW hc).1
      rw [hn] at h4
      exact h4
    have h5 := condW_of h4 (w_not (w_lt w_lit (w_len_list (w_arg rfl))))
    rw [List.length_map] at h5
    refine Nat.le_of_not_lt fun q => ?_
    have q' : (n : Int) < ((ns.length : Nat) : Int) := by omega
    first
      | (rw [decide_eq_true q'] at h5; exact absurd h5 (by decide))
      | (simp at h5; omega)
  cases hwl with
  | cons w1 w2 =>
    cases w2
    cases w1 with
    | list ho hall => exact ⟨_, _, ns, rfl, rfl, ho, ints_of_wellAll ns _ hall, hlen⟩

theorem post_true (l : OpenLaw) (args : List WData) : l.row.toRowW.claim.post args (.bool true) args = true :=
  postW_of (r := l.row.toRowW) (X := (true == true))
    (show WShape.has [] (.bool true) .bool = true by first | rfl | decide | simp [WShape.has, WShape.arms, WShape.armsAll])
    (show (WTm.eq .res (.lit (.bool true))).value [] { args := args, res := some (.bool true), after := args } = some (.bool (true == true)) from w_eq_bool (w_res rfl) w_lit) rfl

/-! ### the attachment: holds_open's last premise (the goal 'hc' behind k_head) from a wpAny of the law's body -/
/-- the same from a codeAny of the CALL (for a layer whose function contracts speak of calls) -/
theorem attach_call {l : OpenLaw} {n : Nat} {q : Program} {loose : List Str} {XP : (Str → Option Value) → Heap → Prop} {YP : World → Heap → Prop} {d : DefRec}
    (hn : l.most = some n) (hdf : d.params.defaults = [])
    (call : ∀ (w : World) (s₀ s₁ : Shared) (mg mb : Str → Option Value) (fa : Addr) (o : Obj) (pm cd doc : Value) (a : Addr) (vs : List Value) (ns : List Int),
      Ground q loose [] XP w s₀ mg mb s₁.heap → YP w s₁.heap →
      s₁.heap.get? fa = some o → o.data = .func (docDef d.name d.params d.body d.scope pm cd doc) → s₁.heap.CodeRec cd d.name → mg d.name = some (.ref fa) →
      s₁.heap.get? a = some { cls := .type "list", data := .seq vs.toArray } → IntsAre vs ns → ns.length ≤ n → s₁.gens = #[] →
      codeAny (model l.prog w) callerA (.call (.ref fa) ⟨[.ref a], []⟩) (fun r s' => r = .ok (.ret (.bool true)) ∧ OldK s₁.heap s'.heap ∧ s'.os = s₁.os ∧ AllBare s'.gens) s₁) :
    WalkO q loose XP YP l.row.toRowW d [] (fun f vs => PySem.call f vs) := by
  intro w s₀ s₁ mg mb G Y fa o pm cd doc dV kV ho hd hcd hD hmg hg args vals as hpre hlay hrd hwl hlo
  obtain rfl : dV = .none := Dflts.none hD hdf
  obtain rfl : kV = .none := Dflts.noKw hD
  obtain ⟨a, vs, ns, rfl, rfl, hobj, hints, hlen⟩ := script_of hn hpre hwl
  refine enter_call (codeAny_mono (call w s₀ s₁ mg mb fa o pm cd doc a vs ns G Y ho (fd_plain hd) hcd hmg hobj hints hlen hg) fun r s' hq => ?_)
  obtain ⟨rfl, h2, h3, h4⟩ := hq
  exact ⟨.inl ⟨.bool true, .bool true, [], rfl, fun _ => rfl, .bool true, post_true l _, fun _ => ⟨List.Pairwise.nil, fun _ hm => (nomatch hm)⟩⟩, h2, h3, h4⟩

/-! ### rules over ANY heap (no ledger) from facts about the written part K: the library's own take a ledger (News) for what they write -/
section
variable {prog : Program} {w : World} {A : Around} {E : Value → Shared → Prop} {s : Shared} {K : Frag}

/-! the whole heap as the ledger: makes every rule that writes through a ledger a rule over any heap -/
end
end Att

namespace L2
open PySem PySem.Spec PyProof.Rows

theorem vals_ints : ∀ {vs : List Value} {ns : List Int}, IntsAre vs ns → Vals (ns.map V.int) vs
  | _, _, .nil => .nil
  | _, _, .cons n t h => .cons ⟨t, rfl⟩ (vals_ints h)

/-- nothing is tracked but the script, known to the object (or it is an object of the module) -/
def Only (H : Hp) : Prop := ∀ b, H b = none ∨ ∃ o xs, H b = some (.frz o (.lst xs))

/-- THE HEAD: the law's promise, at the heap behind the top. F, the promise of the law's def, may use that base is part of the heap (so K.In base, base.Ns mainGlobals mg stand in Mod) -/
theorem law_call {P : Program} {w : World} {K : PySem.W.Frag} {mg mb : Str → Option Value} {CX : CXT} {k : Nat} {fa a : Addr} {fd : FuncData} {x : Str} {sp : Sp} {s₁ : Shared} {vs : List Value} {ns : List Int}
    (KX : K.In s₁.heap) (hns : s₁.heap.Ns mainGlobals mg) (hb : s₁.heap.Ns builtinsNs mb) (hbb : ∀ x : Str, x ≠ "__name__" → mb x = bootBuiltins x) (hlim : s₁.heap.NoLimit) (hg : s₁.gens = #[])
    (ha : s₁.heap.get? a = some { cls := .type "list", data := .seq vs.toArray }) (hi : IntsAre vs ns) (hl : ns.length ≤ sizeLine) (hr : Room k callerA)
    (F : ∀ base : Heap, K.In base → base.Ns mainGlobals mg → FnOk P w K mg base CX k fa fd [x] sp) (hbind : ∀ (s : Shared) (u : Value), BindsTo s fd ⟨[u], []⟩ [(x, u)])
    (hsp : ∀ H : Hp, Only H → SqL K H a (ns.map V.int) → sp [.ref a] H (fun v _ => v = .bl true) fun _ _ _ => False)
    (hCX : ∀ H e s', CX [] H s₁ (fun _ _ _ => False) e s' → False) :
    codeAny (model P w) callerA (.call (.ref fa) ⟨[.ref a], []⟩) (fun r s' => r = .ok (.ret (.bool true)) ∧ OldK s₁.heap s'.heap ∧ s'.os = s₁.os ∧ AllBare s'.gens) s₁ := by
  have rv := vals_ints hi
  have lenV := hi.length
  -- from an abstract heap in which nothing but the script may be tracked
  have core : ∀ H : Hp, Only H → SqL K H a (ns.map V.int) → HOk P w H s₁.heap → (∀ b, H b ≠ none → b = a) → (H a ≠ none → K.lookup a = none) →
      codeAny (model P w) callerA (.call (.ref fa) ⟨[.ref a], []⟩) (fun r s' => r = .ok (.ret (.bool true)) ∧ OldK s₁.heap s'.heap ∧ s'.os = s₁.os ∧ AllBare s'.gens) s₁ := by
    intro H hO hS hok hA hK
    have base_of : ∀ {b : Addr} {o : Obj}, s₁.heap.get? b = some o → H b = none → (hidT s₁.heap H).get? b = some o := fun e n => hidT_get e n
    have noA : ∀ {b : Addr} {o : Obj} {es : Array DictEntry} {ep : Nat}, s₁.heap.get? b = some o → o.data = .dict es ep → H b = none := fun {b o es ep} e d => by
      cases q : H b with
      | none => rfl
      | some u =>
        have e' : b = a := hA b (by rw [q]; simp)
        subst e'
        rw [ha] at e; cases e
        have d' : Data.seq vs.toArray _ = Data.dict es ep := d
        cases d'
    have nsK : ∀ {b : Addr} {m : Str → Option Value}, s₁.heap.Ns b m → (hidT s₁.heap H).Ns b m := fun {b m} ⟨o, es, ep, e, d, r⟩ => ⟨o, es, ep, base_of e (noA e d), d, r⟩
    have hKb : K.In (hidT s₁.heap H) := fun b o e => base_of (KX b o e) (by
      cases q : H b with
      | none => rfl
      | some u =>
        have e' : b = a := hA b (by rw [q]; simp)
        subst e'
        rw [hK (by rw [q]; simp)] at e; cases e)
    have hM : Mod K mg (hidT s₁.heap H) := ⟨hKb, nsK hns, ⟨mb, nsK hb, hbb⟩, let ⟨mc, h1, h2⟩ := hlim; ⟨mc, nsK h1, h2⟩⟩
    have e0 : Env0 P w K mg (hidT s₁.heap H) callerA [] s₁ H := ⟨rfl, hM, fun b o e => of_hidT e, Nat.le_of_eq (hidT_size _ _), trivial, fun b hb => absurd (show b ∈ ([] : List Addr) from hb) (by simp), hok, .of_eq hg⟩
    refine codeAny_mono ((F _ hKb (nsK hns)).run callerA [] s₁ H ⟨[.ref a], []⟩ [.ref a] [.ref a] _ _ hr e0 (hbind s₁ (.ref a)) (.cons rfl .nil) (hsp H hO hS)) fun r s' h => ?_
    cases r with
    | error e => exact (hCX H e s' h).elim
    | ok fl =>
      cases fl with
      | next => exact False.elim h
      | brk => exact False.elim h
      | cont => exact False.elim h
      | ret u =>
        obtain ⟨v, H', os, bare, un, hok', r', q⟩ := h
        have q' : v = .bl true := q
        subst q'
        obtain rfl : u = Value.bool true := r'
        refine ⟨rfl, OldK.of_keep fun b o e => ?_, os, bare⟩
        cases q : H b with
        | none => exact un.keep b o e q (by intro z; exact absurd (show b ∈ ([] : List Addr) from z) (by simp)) (by simp)
        | some u =>
          rcases hO b with z | ⟨ob, xs, z⟩
          · rw [q] at z; cases z
          · have z2 := un.frzs b ob _ z
            obtain ⟨e1, _⟩ := hok b _ z
            obtain ⟨e2, _⟩ := hok' b _ z2
            rw [e] at e1; cases e1
            exact e2
  cases hk : K.lookup a with
  | some o =>
    -- the script is one of the module's own objects
    have e := KX a o hk
    rw [ha] at e
    cases e
    refine core (fun _ => none) (fun _ => .inl rfl) (.inr ⟨_, vs.toArray, _, hk, rfl, rfl, rfl, by rw [List.size_toArray, lenV]; exact hl, by simpa using rv⟩) (fun b u z => by have z' : (none : Option HO) = some u := z; cases z') (fun b z => absurd rfl z) fun z => absurd rfl z
  | none =>
    refine core (fun b => if b = a then some (.frz { cls := .type "list", data := .seq vs.toArray } (.lst (ns.map V.int))) else none) (fun b => ?_) (.inl (.inr ⟨{ cls := .type "list", data := .seq vs.toArray }, if_pos rfl⟩)) (fun b u z => ?_) (fun b z => ?_) fun _ => hk
    · by_cases hb : b = a
      · exact .inr ⟨_, _, if_pos hb⟩
      · exact .inl (if_neg hb)
    · by_cases hb : b = a
      · have z' := (if_pos hb).symm.trans z
        cases z'
        subst hb
        exact ⟨ha, by rw [List.length_map]; exact hl, vs, _, rv, ha⟩
      · have z' := (if_neg hb).symm.trans z
        cases z'
    · by_cases hb : b = a
      · exact hb
      · exact absurd (if_neg hb) z
end L2

namespace L2
open PySem PySem.Spec PyProof.Rows

/-- the goal that k_head leaves (case hc), from the law's promise. F gives the function object fd (K's own) once, then the promise over every base -/
theorem walk_of {l : PySem.W.OpenLaw} {n k : Nat} {q : Program} {loose : List Str} {XP : (Str → Option Value) → Heap → Prop} {YP : World → Heap → Prop} {d : DefRec} {K : Params → PySem.W.Frag} {CX : World → CXT} {sp : World → Sp} {x : Str}
    (hn : l.most = some n) (hn2 : n ≤ sizeLine) (hdf : d.params.defaults = []) (hr : Room k callerA)
    (hY : ∀ (w : World) (h : Heap), YP w h → (K w.params).In h)
    (F : ∀ (w : World) (mg : Str → Option Value) (fa : Addr) (h : Heap), (K w.params).In h → h.Ns mainGlobals mg → mg d.name = some (.ref fa) →
      ∃ fd : FuncData, (∀ (s : Shared) (u : Value), BindsTo s fd ⟨[u], []⟩ [(x, u)]) ∧
        ∀ base : Heap, (K w.params).In base → base.Ns mainGlobals mg → FnOk l.prog w (K w.params) mg base (CX w) k fa fd [x] (sp w))
    (hsp : ∀ (w : World) (H : Hp) (a : Addr) (ns : List Int), ns.length ≤ n → Only H → SqL (K w.params) H a (ns.map V.int) → sp w [.ref a] H (fun v _ => v = .bl true) fun _ _ _ => False)
    (hCX : ∀ (w : World) (H : Hp) (s : Shared) (e : Value) (s' : Shared), CX w [] H s (fun _ _ _ => False) e s' → False) :
    PySem.W.WalkO q loose XP YP l.row.toRowW d [] (fun f vs => PySem.call f vs) := by
  refine Att.attach_call hn hdf fun w s₀ s₁ mg mb fa o pm cd doc a vs ns G Y ho hd hcd hmg hobj hints hlen hg => ?_
  have KX := hY w _ Y
  obtain ⟨fd, hb, hF⟩ := F w mg fa _ KX G.T.g hmg
  exact law_call KX G.T.g G.T.b G.T.builtins G.T.nolimit hg hobj hints (Nat.le_trans hlen hn2) hr hF hb (fun H hO hS => hsp w H a ns hlen hO hS) fun H e s' => hCX w H s₁ e s'
end L2

/-! SHORT WORDS over the layer: a def of the text, its body, what a loop and a test want. -/
namespace L2
open PySem PySem.Spec PyProof.Rows

/-! ### the text by places -/
/-- the j-th statement of a class's body -/
def inClass (s : Stmt) (j : Nat) : Stmt := match s with
  | .ClassDef _ _ _ body _ _ _ _ _ _ _ => body.getD j (.Pass ⟨0, 0, 0, 0⟩)
  | _ => .Pass ⟨0, 0, 0, 0⟩
def defArgs (s : Stmt) : Arguments := match s with
  | .FunctionDef _ a _ _ _ _ _ _ _ _ => a
  | _ => { posonlyargs := [], args := [], vararg := none, kwonlyargs := [], kw_defaults := [], kwarg := none, defaults := [] }
def defBody (s : Stmt) : List Stmt := match s with
  | .FunctionDef _ _ b _ _ _ _ _ _ _ => b
  | _ => []
def defScope (s : Stmt) : Scope := match s with
  | .FunctionDef _ _ _ _ _ _ sc _ _ _ => sc
  | _ => { kind := .function, names := [], isGenerator := false, isCoroutine := false }

/-! ### no exception leaves a def -/
abbrev CX0 : CXT := fun _ _ _ _ _ _ => False
abbrev E0 : XK := fun _ _ _ => False
theorem pass0 {X : Cx} : Passes CX0 X E0 := fun _ _ _ _ _ _ _ h => h.elim

/-! ### a def (or method) of the text as it stands behind the top -/
structure Fun (K : PySem.W.Frag) (x qual : Str) (st : Stmt) (f : Addr) (fd : FuncData) : Prop where
  ex : ∃ (oc : Value) (od : Option Addr) (kV doc pm : Value) (an : Option Addr) (cdv ct : Value) (osl : Array (Option Value)),
    fd = PySem.W.fnOf x qual (defArgs st) (defBody st) (defScope st) .none kV doc pm an cdv ct ∧ K.lookup f = some ⟨oc, od, .func fd, osl⟩ ∧ PySem.W.codeIn K cdv qual = true
  kp : PySem.W.keepIn K (.ref f) = true
section
variable {P : Program} {w : World} {K : PySem.W.Frag} {mg : Str → Option Value} {base : Heap}
/-- THE RULE for a def: its body as a term of rules, and the reading of that term -/
theorem Fun.ok {x qual : Str} {st : Stmt} {f : Addr} {fd : FuncData} {N ps : List Str} {k : Nat} {sp : Sp} (F : Fun K x qual st f fd) (S : FnScope N ps (defScope st)) (len : ∀ vs H Q E, sp vs H Q E → vs.length = ps.length)
    (hbody : ∀ (cdv : Value) (A : Around) (outer : List Env) (s : Shared) (H : Hp) (vs : List V) (Q : VK) (E : XK), Room k (A.deeper (envOfC qual (defScope st) s.heap.objs.size f cdv)) → sp vs H Q E →
      ∃ t, PSs (cxOf CX0 P w K mg base N qual (defScope st) f cdv A outer s H E).nox (defBody st) t ∧ t { nx := fun _ H' => Q .non H', rt := Q } (start N vs) H) : FnOk P w K mg base CX0 (k + 1) f fd ps sp := by
  obtain ⟨oc, od, kV, doc, pm, an, cdv, ct, osl, rfl, lk, hcd⟩ := F.ex
  refine fn_of lk hcd S len fun A outer s H vs Q E hr hsp => ?_
  obtain ⟨t, h, q⟩ := hbody cdv A outer s H vs Q E hr hsp
  exact ⟨t, h.nox, q⟩
/-- how its arguments bind (no defaults): h is «fun _ _ _ _ _ _ us hl => match us, hl with | [_, _], _ => rfl», one _ a parameter -/
theorem Fun.binds {x qual : Str} {st : Stmt} {f : Addr} {fd : FuncData} {ps : List Str} (F : Fun K x qual st f fd)
    (h : ∀ (kV doc pm : Value) (an : Option Addr) (cdv ct : Value) (us : List Value), us.length = ps.length → bindArgs (PySem.W.fnOf x qual (defArgs st) (defBody st) (defScope st) .none kV doc pm an cdv ct) ⟨us, []⟩ = pure (ps.zip us)) : Binds K fd ps [] := by
  obtain ⟨oc, od, kV, doc, pm, an, cdv, ct, osl, rfl, lk, hcd⟩ := F.ex
  exact .all (h kV doc pm an cdv ct)
theorem fun_mk {x qual : Str} {st : Stmt} {f : Addr} {oc : Value} {od an : Option Addr} {osl : Array (Option Value)} {kV doc pm cdv ct : Value} (l : K.lookup f = some ⟨oc, od, .func (PySem.W.fnOf x qual (defArgs st) (defBody st) (defScope st) .none kV doc pm an cdv ct), osl⟩)
    (c : PySem.W.codeIn K cdv qual = true) (k : PySem.W.keepIn K (.ref f) = true) : Fun K x qual st f (PySem.W.fnOf x qual (defArgs st) (defBody st) (defScope st) .none kV doc pm an cdv ct) := ⟨⟨oc, od, kV, doc, pm, an, cdv, ct, osl, rfl, l, c⟩, k⟩
end
theorem hu_of {A : Around} {k : Nat} (hr : Room k A) : A.units + 1 < cLine := Nat.lt_of_le_of_lt (Nat.add_le_add_left (by decide : 1 ≤ 64) _) hr.units
/-! ### expressions in short: the name that stands in the i-th slot -/
section
variable {X : Cx}
theorem pv (i : Nat) {x : Str} {pos : Pos} (hN : X.N[i]? = some x := by rfl) (hv : Vis X.env.scope x := by first | exact Or.inl rfl | exact Or.inr (Or.inl rfl) | exact Or.inr (Or.inr rfl)) (hd : (x == ("__debug__" : Str)) = false := by decide)
    (hcd : (x == ("__classdict__" : Str)) = false := by decide) : PE X (.Name x pos) (tVar i) := pe_var hN hv hd hcd
end

/-! ### tests -/
theorem iteF {A B : Prop} (h : B) : if false = true then A else B := by
  rw [if_neg Bool.false_ne_true]
  exact h
theorem iteT {A B : Prop} (h : A) : if true = true then A else B := by
  rw [if_pos rfl]
  exact h
theorem ite2 {c A B : Prop} [Decidable c] (h1 : c → A) (h2 : ¬ c → B) : if c then A else B := by
  by_cases h : c
  · rw [if_pos h]
    exact h1 h
  · rw [if_neg h]
    exact h2 h
theorem iteNS {c A B : Prop} [Decidable c] (hc : c) (h : B) : if (!decide c) = true then A else B := by
  rw [decide_eq_true hc]
  exact iteF h

/-! ### heaps -/
/-- all that was tracked is as it was -/
def Same (H H' : Hp) : Prop := ∀ b o, H b = some o → H' b = some o
theorem Same.refl (H : Hp) : Same H H := fun _ _ h => h
theorem Same.trans {H H1 H2 : Hp} (a : Same H H1) (b : Same H1 H2) : Same H H2 := fun c o h => b c o (a c o h)
theorem Same.free {H H' : Hp} (e : Same H H') {l : Addr} (h : H' l = Option.none) : H l = Option.none := by
  cases q : H l with
  | none => rfl
  | some o =>
    rw [e l o q] at h
    cases h
end L2

set_option Elab.async false
set_option linter.all false
set_option maxRecDepth 100000
namespace L2
open PySem PySem.Spec PyProof.Rows

section
variable {X : Cx}
theorem log2_lt_of {n k : Nat} (hk : 0 < k) (h : n < 2 ^ k) : n.log2 < k := by
  rcases Nat.eq_zero_or_pos n with h0 | hp
  · rw [h0]; simpa using hk
  · exact (Nat.log2_lt (Nat.ne_of_gt hp)).mpr h
def CDivB (i j : Int) : Prop := 0 < j ∧ j.natAbs < 2 ^ 4000
theorem op_fdivB : OpR X (binaryOp .FloorDiv) (rI CDivB fun i j => .int (i / j)) := opI fun i j _ _ _ _ _ hc q => by
  have h1 : (0 : Int) < j := hc.1
  have h2 := log2_lt_of (by decide : 0 < 4000) hc.2
  exact floordiv_int (by omega) (by rw [Int.fdiv_eq_ediv_of_nonneg i (by omega)]; exact q) (.inl (PyProof.noPylong_of_log2 (by omega)))

/-! isinstance with a built-in class -/
theorem call_isinst : CallR X (.builtin "isinstance") (fun xs H Q => ∃ x T t b, xs = [x, .ty T] ∧ TyOf X.K H x t ∧ PySem.W.kitOne X.K t (.type T) = some b ∧ Q (.bl b) H) := by
  intro pins s σ H xs us Q I r h
  obtain ⟨x, T, t, b, rfl, ty, e, q⟩ := h
  obtain ⟨u, u2, rfl, rx, r2⟩ := vals2 r
  obtain rfl : u2 = Value.type T := r2
  exact isinst_ok I rx ty e fun tk => ⟨.bl b, H, I.tok tk, rfl, q⟩

/-! the answers of isinstance, whatever the fragment -/
/-! sum of a list of ints -/
theorem call_sum (hc : X.calm = true) : CallR X (.builtin "sum") (fun xs H Q => ∃ (p : Addr) (ns : List Int), xs = [.ref p] ∧ SqL X.K H p (ns.map V.int) ∧ Q (.int ns.sum) H) := by
  intro pins s σ H xs us Q I r h
  obtain ⟨p, ns, rfl, hS, q⟩ := h
  obtain ⟨u, rfl, rx⟩ := vals1 r
  obtain rfl : u = Value.ref p := rx
  obtain ⟨its, rv, pl, hz⟩ := I.list hS
  have hi := intsAre_of rv
  obtain ⟨xs, e⟩ := hi.allInts.items
  have e2 : (xs.toList.map (·.1)) = ns := by
    rw [← nums_intItems, ← e]
    exact hi.numsOf
  refine sum_intListG (xs := xs) (I.ok.hd hc) (by rw [← e]; exact pl.isList) fun h' tk t' hk => ⟨.int ns.sum, H, I.kept hk, ⟨t', ?_⟩, q⟩
  rw [preSum_eq, List.take_of_length_le (by simp), e2]

/-! xs[::-1] -/
def tRev (K : PySem.W.Frag) (te : TE) : TE := fun σ H Q => te σ H fun x H1 => ∃ a xs, x = .ref a ∧ SqL K H1 a xs ∧ ∀ p, H1 p = none → Q (.ref p) (upd H1 p (.lst xs.reverse))
theorem pe_rev {e : Expr} {te : TE} {j} {p2 p3 p4 pos : Pos} (he : PE X e te) : PE X (.Subscript e (.Slice none none (some (.UnaryOp .USub (.Constant (.int 1) j p3) p4)) p2) pos) (tRev X.K te) := by
  intro pins s σ H Q I h
  refine Subscript_ (thn (he pins s σ H _ I h) fun v s1 ⟨x, H1, I1, r1, q1⟩ => ?_)
  obtain ⟨a, xs, rfl, hx, q⟩ := q1
  obtain rfl : v = Value.ref a := r1
  refine wpAny_Slice ?_
  rw [evalPart_none]
  refine wpAny_pure ?_
  refine wpAny_pure ?_
  refine thn (po_some (X := X) (pe_un un_neg pe_int) pins s1 σ H1 (fun o H' => o = some (-1) ∧ H' = H1) I1 ⟨1, rfl, -1, rfl, rfl, rfl⟩) fun vs s2 ⟨o, H2, I2, ip, eo, eH⟩ => ?_
  subst eo eH
  obtain ⟨its, r, ht, hz⟩ := I2.list hx
  have hlen := r.length
  have I4 : Inv X pins σ H2 { s2 with heap := s2.heap.push { cls := .type "slice", data := .fields #[.none, .none, vs] } } := I2.kept (t' := s2.toks) fun b ob q => Heap.get?_push_of_some _ q
  have ht4 : PlainL (s2.heap.push { cls := .type "slice", data := .fields #[.none, .none, vs] }) a its.toArray := by
    obtain ⟨o, n, e1, e2⟩ := ht
    exact ⟨o, n, Heap.get?_push_of_some _ e1, e2⟩
  refine tail_any (ops := [.ref a, .ref s2.heap.objs.size]) ht4.isList.typeIs slot_list_getitem.lookup ?_ (by with_unfolding_all rfl)
  refine wpAny_getItem_list_slice ht4.isList (Heap.IsSliceOf.new ..) .none .none ip (by simp) ?_ (by rw [List.size_toArray] <;> omega)
  rw [PySem.W.krv_pick]
  refine ⟨.ref _, _, I4.laid (t' := s2.toks) (o := .lst xs.reverse) (fun b ob q => Heap.get?_push_of_some _ q) (Nat.le_refl _) ?_, rfl, q _ (I4.hok.fresh (Nat.le_refl _))⟩
  exact ⟨by rw [List.length_reverse]; exact hz, its.reverse, 0, r.reverse, Heap.get?_push_size _ rfl⟩

/-! an item of a dict of the file's top, by a text -/
/-! a call of what a local name holds: one of a family of defs -/
end
end L2

set_option Elab.async false
set_option linter.all false
set_option maxRecDepth 100000
namespace L2
open PySem PySem.Spec PyProof.Rows

theorem bt_len : bootBuiltins "len" = some (.builtin "len") := by decide +kernel
theorem bt_sum : bootBuiltins "sum" = some (.builtin "sum") := by decide +kernel
theorem bt_isinstance : bootBuiltins "isinstance" = some (.builtin "isinstance") := by decide +kernel
theorem bt_int : bootBuiltins "int" = some (.type "int") := by decide +kernel
theorem bt_tuple : bootBuiltins "tuple" = some (.type "tuple") := by decide +kernel
theorem bt_list : bootBuiltins "list" = some (.type "list") := by decide +kernel

/-! a def of the text, by its name and its promise -/
structure Def (P : Program) (w : World) (K : PySem.W.Frag) (mg : Str → Option Value) (base : Heap) (CX : CXT) (k : Nat) (x : Str) (sp : Sp) : Prop where
  ex : ∃ f fd ps, FnOk P w K mg base CX k f fd ps sp ∧ Binds K fd ps [] ∧ mg x = some (.ref f) ∧ PySem.W.keepIn K (.ref f) = true
section
variable {X : Cx} {CX : CXT} {k : Nat} {sp : Sp} {x : Str} {p pos : Pos} {e : Expr} {es : List Expr} {t : TA}
theorem pe_def (G : Def X.prog X.w X.K X.mg X.base CX0 k x sp) (hr : Room k X.A) (ha : PA X (e :: es) t) (hg : Gl X x := by rfl) (hdb : (x == ("__debug__" : Str)) = false := by decide)
    (he : starEach (e :: es) X.env = (false, eval e X.env) :: starEach es X.env := by rfl) (hpl : (backTo pos (starEach es X.env)).any (·.1) = false := by rfl) :
    PE X (.Call (.Name x p) (e :: es) [] pos) (tCall sp [] E0 t) := by
  obtain ⟨f, fd, ps, a, b, c, d⟩ := G.ex
  exact pe_call a hr hg c d b .nil pass0 ha hdb he hpl
def rIsin (K : PySem.W.Frag) : List V → Hp → VK → Prop := fun xs H Q => match xs with
  | [x, .ty T] => ∃ t b, TyOf K H x t ∧ PySem.W.kitOne K t (.type T) = some b ∧ Q (.bl b) H
  | _ => False
theorem call_isin : CallR X (.builtin "isinstance") (rIsin X.K) := by
  intro pins s σ H xs us Q I r h
  unfold rIsin at h
  split at h
  · obtain ⟨t, b, ty, e, q⟩ := h
    exact call_isinst pins s σ H _ us Q I r ⟨_, _, t, b, rfl, ty, e, q⟩
  · exact h.elim
theorem pe_isin {T : Str} {TT : String} {a : Expr} {ta : TE} {p2 : Pos} (hm : X.mg "isinstance" = none) (hT : X.mg T = none) (hv : bootBuiltins T = some (.type TT)) (ha : PE X a ta) (hg : Gl X "isinstance" := by rfl) (hg2 : Gl X T := by rfl) (hn : T ≠ "__name__" := by decide) (hd : (T == ("__debug__" : Str)) = false := by decide)
    (he : starEach [a, .Name T p2] X.env = (false, eval a X.env) :: starEach [.Name T p2] X.env := by rfl) (hpl : (backTo pos (starEach [.Name T p2] X.env)).any (·.1) = false := by rfl) (he2 : starEach [.Name T p2] X.env = [(false, eval (.Name T p2) X.env)] := by rfl) :
    PE X (.Call (.Name "isinstance" p) [a, .Name T p2] [] pos) (fun σ H Q => ta σ H fun x H1 => ∃ t b, TyOf X.K H1 x t ∧ PySem.W.kitOne X.K t (.type TT) = some b ∧ Q (.bl b) H1) :=
  pe_callB call_isin hg hm bt_isinstance (pa_cons ha (pa_cons (pe_bltn (v := .ty TT) hg2 hT hv rfl hn hd) pa_nil he2) he) (by decide) (by decide) he hpl
end
end L2

set_option Elab.async false
set_option linter.all false
set_option maxRecDepth 100000
set_option maxHeartbeats 4000000
namespace L2
open PySem PySem.Spec PyProof.Rows

/-! ### a list comprehension with one clause: its block is a context of its own -/
def closes (cells : List (Str × Addr)) : List (Str × NameKind) → List (Str × Addr) → Option (List (Str × Addr))
  | [], acc => some acc
  | (n, k) :: r, acc => if (k == .free) = true then (match cells.lookup n with
    | some a => closes cells r ((n, a) :: acc)
    | none => none) else closes cells r acc
theorem closureFor_of {scope : Scope} {env : Env} {cl : List (Str × Addr)} (h : closes env.cells scope.names [] = some cl) : closureFor scope env = pure cl := by
  have gen : ∀ (l : List (Str × NameKind)) (acc cl : List (Str × Addr)), closes env.cells l acc = some cl →
      (forIn (m := Sem) l acc fun (x : Str × NameKind) (cs : List (Str × Addr)) => if (x.2 == .free) = true then (do let c ← cellOf env x.1; pure (ForInStep.yield ((x.1, c) :: cs))) else pure (ForInStep.yield cs)) = pure cl := by
    intro l
    induction l with
    | nil => intro acc cl h; cases h; rfl
    | cons y r ih =>
      intro acc cl h
      obtain ⟨n, k⟩ := y
      unfold closes at h
      rw [List.forIn_cons]
      by_cases hk : (k == .free) = true
      · rw [if_pos hk] at h
        dsimp only
        rw [if_pos hk]
        cases e : env.cells.lookup n with
        | none => rw [e] at h; cases h
        | some a =>
          rw [e] at h
          have ec : cellOf env n = pure a := by unfold cellOf; rw [e]
          rw [ec, pure_bind, pure_bind]
          exact ih _ _ h
      · rw [if_neg hk] at h
        dsimp only
        rw [if_neg hk, pure_bind]
        exact ih _ _ h
  unfold closureFor
  exact (bind_pure _).trans (gen scope.names [] cl h)
theorem closes_mem {cells : List (Str × Addr)} : ∀ {l : List (Str × NameKind)} {acc cl : List (Str × Addr)}, closes cells l acc = some cl → (∀ p ∈ acc, cells.lookup p.1 = some p.2) → ∀ p ∈ cl, cells.lookup p.1 = some p.2
  | [], acc, cl, h, ha => by cases h; exact ha
  | (n, k) :: r, acc, cl, h, ha => by
    unfold closes at h
    split at h
    · cases e : cells.lookup n with
      | none => rw [e] at h; cases h
      | some a =>
        rw [e] at h
        refine closes_mem h fun p hp => ?_
        rcases List.mem_cons.mp hp with q | q
        · subst q; exact e
        · exact ha p q
    · exact closes_mem h ha
theorem closes_has {cells : List (Str × Addr)} {x : Str} : ∀ {l : List (Str × NameKind)} {acc cl : List (Str × Addr)}, closes cells l acc = some cl → ((x, NameKind.free) ∈ l ∨ ∃ c, (x, c) ∈ acc) → ∃ c, (x, c) ∈ cl
  | [], acc, cl, h, hx => by
    cases h
    rcases hx with q | q
    · cases q
    · exact q
  | (n, k) :: r, acc, cl, h, hx => by
    unfold closes at h
    split at h
    · cases e : cells.lookup n with
      | none => rw [e] at h; cases h
      | some a =>
        rw [e] at h
        refine closes_has h ?_
        rcases hx with q | ⟨c, q⟩
        · rcases List.mem_cons.mp q with z | z
          · cases z; exact .inr ⟨a, List.mem_cons_self⟩
          · exact .inl z
        · exact .inr ⟨c, List.mem_cons_of_mem _ q⟩
    · rename_i hk
      refine closes_has h ?_
      rcases hx with q | q
      · rcases List.mem_cons.mp q with z | z
        · cases z; exact absurd rfl hk
        · exact .inl z
      · exact .inr q
theorem lookup_of_mem {α : Type} {x : Str} {c : α} : ∀ {l : List (Str × α)}, (x, c) ∈ l → ∃ d, l.lookup x = some d ∧ (x, d) ∈ l
  | (n, a) :: r, h => by
    rw [List.lookup_cons]
    by_cases e : (x == n) = true
    · rw [e]
      have e' : x = n := by simpa using e
      exact ⟨a, rfl, by rw [e']; exact List.mem_cons_self⟩
    · have e2 : (x == n) = false := by simpa using e
      rw [e2]
      rcases List.mem_cons.mp h with z | z
      · cases z; simp at e
      · obtain ⟨d, h1, h2⟩ := lookup_of_mem z
        exact ⟨d, h1, List.mem_cons_of_mem _ h2⟩

def cxC (X : Cx) (N : List Str) (scope : Scope) (cl : List (Str × Addr)) (C : Addr) (s2 : Shared) (H2 : Hp) (fp : List Addr) : Cx where
  prog := X.prog
  w := X.w
  K := X.K
  mg := X.mg
  base := X.base
  A := X.A
  N := N
  s₀ := s2
  H₀ := H2
  env := compEnvC scope cl C X.env
  outer := X.stack
  stack := X.stack
  ex := fp
  fn := fun _ => false
  calm := X.calm
  pn := []
  xe := fun _ _ => False
/-- the values at the block's entry: none of its own names, those of the names around it -/
def compStart0 (mp : List (Option Nat)) (σ : St) : St := mp.map fun o => match o with
  | some j => (σ[j]?).bind id
  | none => none
/-- the names of a block: own ones (local), and names around it that it reads -/
structure CompScope (X : Cx) (N : List Str) (mp : List (Option Nat)) (scope : Scope) : Prop where
  kind : scope.kind = .function
  nocell : ∀ y ∈ scope.names, y.2 ≠ .cell
  names : ∀ y ∈ scope.names, y.2 = .local → scope.names.lookup y.1 = some .local
  len : mp.length = N.length
  out : ∀ (i j : Nat), mp[i]? = some (some j) → ∃ x, N[i]? = some x ∧ X.N[j]? = some x ∧ (X.env.scope.names.lookup x = some .cell ∨ X.env.scope.names.lookup x = some .free) ∧ scope.names.lookup x = some .free

def PTL (X : Cx) (ifs : List Expr) (t : TT) : Prop :=
  ∀ (pins : List (Addr × Obj)) (s : Shared) (σ : St) (H : Hp) (Q : Bool → Hp → Prop), Inv X pins σ H s → t σ H Q →
    wpAny (model X.prog X.w) X.A (forIn ifs true fun c r => if r = true then do let ok ← isTrue c X.env (eval c X.env); pure (ForInStep.yield ok) else pure (ForInStep.yield r)) (TP X pins σ Q) X.xe s
section
variable {prog : Program} {w : World} {A : Around} {R : Result → Shared → Prop} {s : Shared}
/-- the comprehension's loop, the step ahead of the store told too; nothing is raised -/
theorem compLoop_go {elt target iter : Expr} {ifs : List Expr} {scope : Scope} {pos : Pos} {it acc : Value} {env : Env} (I : Nat → Shared → Prop)
    (turn : ∀ n s, I n s → wpAny (model prog w) A (pyNext it) (fun r s₁ => match r with
      | none => R (.ok .next) s₁
      | some v => wpAny (model prog w) A (letOwnedTupleGo target it v) (fun _ s1 => wpAny (model prog w) A (assign target env v) (fun _ s₂ =>
          wpAny (model prog w) A (forIn ifs true fun c r => if r = true then do let ok ← isTrue c env (eval c env); pure (ForInStep.yield ok) else pure (ForInStep.yield r)) (fun ok s₃ =>
            if ok = true then wpAny (model prog w) A (eval elt env) (fun x s₄ =>
              wpAny (model prog w) A (call (.builtin "list.append") [acc, x]) (fun _ s₅ => ∃ m, m < n ∧ I m s₅) (fun _ _ => False) s₄) (fun _ _ => False) s₃
            else ∃ m, m < n ∧ I m s₃) (fun _ _ => False) s₂) (fun _ _ => False) s1) (fun _ _ => False) s₁) (fun _ _ => False) s)
    (n : Nat) (h : I n s) :
    codeAny (model prog w) A (.compLoop (.ListComp elt [⟨target, iter, ifs, 0⟩] scope pos) 0 it acc env) R s := by
  refine codeAny_loop rfl I (fun n s hI => ?_) n h
  show wpAny _ A ((compTurn (.ListComp elt [⟨target, iter, ifs, 0⟩] scope pos) 0 it acc env).onRaise (fun x => do noteFrame x env; theTreesLotGoes x)) _ _ s
  refine wpAny_noted ?_
  rw [compTurn_list]
  refine wpAny_bind (wpAny_standAt (wpAny_bind (wpAny_mono (turn n s hI) (fun r s₁ h₁ => ?_) fun _ _ h' => h'.elim)))
  cases r with
  | none => exact wpAny_pure h₁
  | some v =>
    refine wpAny_bind (wpAny_mono h₁ (fun _ s1 h1 => wpAny_bind (wpAny_mono h1 (fun _ s₂ h₂ => wpAny_bind (wpAny_mono h₂ (fun ok s₃ h₃ => ?_) fun _ _ h' => h'.elim)) fun _ _ h' => h'.elim)) fun _ _ h' => h'.elim)
    cases ok with
    | false => exact wpAny_pure ⟨rfl, h₃⟩
    | true =>
      exact wpAny_bind (wpAny_bind (wpAny_mono h₃ (fun x s₄ h₄ => wpAny_bind (wpAny_mono h₄ (fun _ s₅ h₅ => wpAny_pure (wpAny_pure ⟨rfl, h₅⟩)) fun _ _ h' => h'.elim)) fun _ _ h' => h'.elim))
end
section
variable {X : Cx}
theorem ptl_nil : PTL X [] (fun _ H Q => Q true H) := fun pins s σ H Q I h => wpAny_tests_nil ⟨H, I, h⟩
theorem ptl_one {c : Expr} {t : TT} (h : PT X c t) : PTL X [c] t := fun pins s σ H Q I hq => wpAny_tests_one (h pins s σ H Q I hq)

theorem comp_inv {pins : List (Addr × Obj)} {σ : St} {H : Hp} {s2 : Shared} {N : List Str} {mp : List (Option Nat)} {scope : Scope} {cl : List (Str × Addr)} {fp : List Addr} {h1 : Heap} {tk : Nat} (I : Inv X pins σ H s2) (S : CompScope X N mp scope)
    (hcl : closes X.env.cells scope.names [] = some cl) (hfp : ∀ b ∈ fp, FpOk X pins H b) (hfo : ∀ b ∈ fp, ∃ o, s2.heap.get? b = some o)
    (old : ∀ b o, s2.heap.get? b = some o → h1.get? b = some o) (hD : h1.get? s2.heap.objs.size = some { cls := .type "list", data := .seq ([] : List Value).toArray }) {m : Str → Option Value} (hC : h1.Ns (s2.heap.objs.size + 1) m) :
    Inv (cxC X N scope cl (s2.heap.objs.size + 1) s2 H fp) [] (compStart0 mp σ) (upd H s2.heap.objs.size (.lst [])) { s2 with heap := h1, toks := tk } := by
  have clm : ∀ {x : Str} {c : Addr}, cl.lookup x = some c → X.env.cells.lookup x = some c := fun {x c} e => closes_mem hcl (fun p z => absurd z (by simp)) (x, c) (PySem.mem_of_lookup e)
  have hn : H s2.heap.objs.size = none := I.hok.fresh (Nat.le_refl _)
  have hnC : H (s2.heap.objs.size + 1) = none := I.hok.fresh (Nat.le_succ _)
  have cellLt : ∀ {x : Str} {c : Addr}, X.env.cells.lookup x = some c → c < s2.heap.objs.size := fun {x c} e => by
    obtain ⟨v, q⟩ := I.cell x c e
    exact q.lt
  have freeOf : ∀ x, ((relabel scope X.env).names.lookup x = some .cell ∨ (relabel scope X.env).names.lookup x = some .free) → (x, NameKind.free) ∈ scope.names := fun x hx => by
    have hm : (x, NameKind.cell) ∈ (relabel scope X.env).names ∨ (x, NameKind.free) ∈ (relabel scope X.env).names := hx.elim (fun z => .inl (PySem.mem_of_lookup z)) fun z => .inr (PySem.mem_of_lookup z)
    have conv : ∀ k, (x, k) ∈ (relabel scope X.env).names → (k = .cell ∨ k = .free) → (x, NameKind.free) ∈ scope.names := fun k hm hk => by
      obtain ⟨⟨n, k'⟩, hy, e⟩ := List.mem_map.mp hm
      dsimp only at e
      split at e
      · rename_i hc
        simp only [Bool.and_eq_true, beq_iff_eq] at hc
        cases e
        rw [hc.1.1] at hy
        exact hy
      · cases e
        rcases hk with z | z
        · subst z; exact absurd rfl (S.nocell _ hy)
        · subst z; exact hy
    exact hm.elim (fun z => conv _ z (.inl rfl)) fun z => conv _ z (.inr rfl)
  have ok : (cxC X N scope cl (s2.heap.objs.size + 1) s2 H fp).Ok := by
    refine ⟨I.ok.mod, S.kind, I.ok.glob, I.ok.blt, Nat.le_succ _, fun x y c e1 e2 => I.ok.inj x y c (clm e1) (clm e2), fun x hx => ?_, (fun x c z => nomatch z), I.ok.hd, I.ok.frames, .inl rfl, fun b hb => ⟨?_, fun x c e => (hfp b hb).2.2.2.2.1 x c (clm e)⟩, I.bs, Nat.le_trans I.ok.bsz I.sz, fun b o e hb => ?_, fun b hb z => ?_, I.stack, I.stkFree⟩
    · obtain ⟨c, hc⟩ := closes_has hcl (.inl (freeOf x hx))
      obtain ⟨d, hd, _⟩ := lookup_of_mem hc
      exact ⟨d, hd⟩
    · obtain ⟨o, e⟩ := hfo b hb
      exact Nat.ne_of_lt (Nat.lt_succ_of_lt (Heap.lt_size e))
    · rcases (hfp b hb).2.2.2.1 with z | z
      · exact I.ok.noex b o e z
      · exact absurd (Nat.lt_of_lt_of_le (Heap.lt_size e) (Nat.le_trans I.ok.bsz z)) (Nat.lt_irrefl _)
    · rcases List.mem_cons.mp (I.stkSub b z) with q | q
      · exact (hfp b hb).2.1 q
      · exact (hfp b hb).2.2.1 q
  refine ⟨ok, rfl, I.bare, Un.laid old (Nat.le_refl _) hn, ⟨m, hC, fun i x v e1 e2 e3 => ?_⟩, fun x c e => ?_, ?_, fun x c e => ?_, (fun p hp => nomatch hp), ?_, ?_⟩
  · -- a name around
    unfold compStart0 at e2
    rw [List.getElem?_map] at e2
    cases em : mp[i]? with
    | none => rw [em] at e2; cases e2
    | some o =>
      rw [em] at e2
      cases o with
      | none => cases e2
      | some j =>
        have e2' : (σ[j]?).bind id = some v := Option.some.inj e2
        obtain ⟨x', n1, n2, n3, n4⟩ := S.out i j em
        rw [show (cxC X N scope cl (s2.heap.objs.size + 1) s2 H fp).N[i]? = N[i]? from rfl, n1] at e1
        cases e1
        have sj : σ[j]? = some (some v) := by
          cases ej : σ[j]? with
          | none => rw [ej] at e2'; cases e2'
          | some o => rw [ej] at e2'; exact congrArg some e2'
        obtain ⟨m0, hm0, hl⟩ := I.loc
        obtain ⟨u, ru, lk⟩ := hl j x v n2 sj (.inr n3)
        refine ⟨u, ru, .inr ⟨?_, ?_⟩⟩
        · have hf : (x, NameKind.free) ∈ scope.names := PySem.mem_of_lookup n4
          -- the relabelled kind
          have key : ∀ l : List (Str × NameKind), l.lookup x = some .free → ((l.map fun (n, k) => if (k == NameKind.free && X.env.scope.kind == .function && X.env.kindOf n == some .cell) then (n, NameKind.cell) else (n, k)).lookup x = some .cell ∨
              (l.map fun (n, k) => if (k == NameKind.free && X.env.scope.kind == .function && X.env.kindOf n == some .cell) then (n, NameKind.cell) else (n, k)).lookup x = some .free) := by
            intro l
            induction l with
            | nil => intro z; cases z
            | cons y r ih =>
              obtain ⟨n, k⟩ := y
              intro z
              rw [List.lookup_cons] at z
              rw [List.map_cons]
              dsimp only
              by_cases en : (x == n) = true
              · rw [en] at z
                dsimp only at z
                cases z
                split
                · exact .inl (by rw [List.lookup_cons, en])
                · exact .inr (by rw [List.lookup_cons, en])
              · have en2 : (x == n) = false := by simpa using en
                rw [en2] at z
                dsimp only at z
                split
                · rw [List.lookup_cons, en2]; exact ih z
                · rw [List.lookup_cons, en2]; exact ih z
          exact key scope.names n4
        · have hf : (x, NameKind.free) ∈ scope.names := PySem.mem_of_lookup n4
          obtain ⟨c, hc⟩ := closes_has hcl (.inl hf)
          obtain ⟨d, hd, _⟩ := lookup_of_mem hc
          rcases lk with ⟨k1, _⟩ | ⟨_, c', hc', z⟩
          · have k1' : X.env.scope.names.lookup x = some .local := k1
            rcases n3 with z | z <;> (rw [k1'] at z; cases z)
          · have e := clm hd
            rw [hc'] at e
            have e3 : c' = d := Option.some.inj e
            obtain ⟨o, ho, hdt⟩ := z
            rw [e3] at ho
            exact ⟨d, hd, o, old _ _ ho, hdt⟩
  · obtain ⟨v, o, ho, hdt⟩ := I.cell x c (clm e)
    exact ⟨v, o, old _ _ ho, hdt⟩
  · show upd H s2.heap.objs.size (.lst []) (s2.heap.objs.size + 1) = none
    rw [upd_ne (Nat.ne_of_gt (Nat.lt_succ_self _))]; exact hnC
  · show upd H s2.heap.objs.size (.lst []) c = none
    rw [upd_ne (Nat.ne_of_lt (cellLt (clm e)))]
    exact I.freeC x c (clm e)
  · exact I.hok.laid old (Nat.le_refl _) ⟨by show 0 ≤ sizeLine; exact Nat.zero_le _, [], 0, .nil, hD⟩
  · show (compStart0 mp σ).length = N.length
    unfold compStart0
    rw [List.length_map]; exact S.len

/-- the reading of [elt for tg in iter if ..] -/
def tComp (mp : List (Option Nat)) (wi : TI) (g : Addr → Shared → Hp → List Addr → TG) (tt : Addr → Shared → Hp → List Addr → TT) (te : Addr → Shared → Hp → List Addr → TE) : TE := fun σ H Q => wi σ H fun J H1 => ∀ (D : Addr), H1 D = none → ∀ (C : Addr) (s2 : Shared) (fp : List Addr),
  ∃ W : Nat → Nat → St → Hp → Prop, (∃ m, W 0 m (compStart0 mp σ) (upd H1 D (.lst []))) ∧ ∀ i m σ2 H2, W i m σ2 H2 →
    (J.stop i H2 ∧ Q (.ref D) H2) ∨ (J.go i H2 ∧ ∃ N : St → Hp → Prop, (∀ σ' H', N σ' H' → ∃ m', m' < m ∧ W (i + 1) m' σ' H') ∧ ∀ x H', J.yld i H2 x H' → g C s2 H1 fp x σ2 H' fun σ3 H3 => tt C s2 H1 fp σ3 H3 fun b H4 =>
      if b = true then te C s2 H1 fp σ3 H4 fun y H5 => ∃ xs, H5 D = some (.lst xs) ∧ xs.length < sizeLine ∧ N σ3 (upd H5 D (.lst (xs ++ [y]))) else N σ3 H4)
theorem pe_comp {elt iter tg : Expr} {ifs : List Expr} {scope : Scope} {pos : Pos} {N : List Str} {mp : List (Option Nat)} {cl : List (Str × Addr)} {wi : TI} {g : Addr → Shared → Hp → List Addr → TG} {tt : Addr → Shared → Hp → List Addr → TT} {te : Addr → Shared → Hp → List Addr → TE}
    (hc : X.calm = true) (S : CompScope X N mp scope) (hcl : closes X.env.cells scope.names [] = some cl) (hi : PI X tg iter wi)
    (hg : ∀ C s2 H2 fp, PG (cxC X N scope cl C s2 H2 fp) tg (g C s2 H2 fp)) (ht : ∀ C s2 H2 fp, PTL (cxC X N scope cl C s2 H2 fp) ifs (tt C s2 H2 fp)) (he : ∀ C s2 H2 fp, PE (cxC X N scope cl C s2 H2 fp) elt (te C s2 H2 fp))
    (hs : ∀ x, foldedSetIterable iter X.env x = pure x := by intro _; rfl) :
    PE X (.ListComp elt [⟨tg, iter, ifs, 0⟩] scope pos) (tComp mp wi g tt te) := by
  intro pins s σ H Q I h
  rw [eval_ListComp]
  refine wpAny_comprehension_free (use := none) rfl hs (closureFor_of hcl) S.kind S.names (thn (hi pins s σ H _ I h) fun v s1 h1 => thn h1 fun itv s2 h2 => ?_)
  obtain ⟨it, fp, tn, J, H2, e, I2, T, st2, f2, h3⟩ := h2
  subst e
  refine wpAny_newObj_type (wpAny_newFunctionEnv S.nocell (by intro y hy; simp at hy) (fun h₁ hns₁ hsb₁ => ?_) S.kind)
  dsimp only at hns₁ hsb₁ ⊢
  have hn2 : H2 s2.heap.objs.size = none := I2.hok.fresh (Nat.le_refl _)
  generalize hH2 : s2.heap.push { cls := .type "list", dict := none, data := .seq ([] : List Value).toArray } = G2 at hns₁ hsb₁ ⊢
  have hC : G2.objs.size = s2.heap.objs.size + 1 := by rw [← hH2, Heap.size_push]
  have old : ∀ b o, s2.heap.get? b = some o → h₁.get? b = some o := fun b o e => hsb₁.extBut b o (by rw [hC]; exact Nat.ne_of_lt (Nat.lt_succ_of_lt (Heap.lt_size e))) (Heap.get?_push_of_some _ (hH2 ▸ Heap.get?_push_of_some _ e))
  have hD1 : h₁.get? s2.heap.objs.size = some { cls := .type "list", data := .seq ([] : List Value).toArray } := hsb₁.extBut _ _ (by rw [hC]; exact Nat.ne_of_lt (Nat.lt_succ_self _)) (Heap.get?_push_of_some _ (hH2 ▸ Heap.get?_push_size _ rfl))
  rw [hC] at hns₁
  obtain ⟨W, ⟨m0, w0⟩, turn⟩ := h3 s2.heap.objs.size hn2 (s2.heap.objs.size + 1) s2 fp
  have I4 := comp_inv (tk := s2.toks + ([] : List (Str × Value)).length) I2 S hcl f2 (fun b hb => let ⟨o, e, _⟩ := T.obj _ _ st2 b hb; ⟨o, e⟩) old hD1 hns₁
  have st4 : tn 0 h₁ := T.keep _ _ _ st2 fun b hb o e => old b o e
  have stat : ∀ {pl : List (Addr × Obj)} {H' : Hp}, (∀ b ∈ fp, H' b = none) → (∀ p ∈ pl, p.1 ∉ fp) → ∀ b ∈ fp, FpOk (cxC X N scope cl (s2.heap.objs.size + 1) s2 H2 fp) pl H' b := fun {pl H'} hn hp b hb =>
    ⟨hn b hb, (I4.ok.exf b hb).1, I4.ok.exfs b hb, .inl hb, (I4.ok.exf b hb).2, fun p z q => hp p (by simpa [cxC] using z) (by rw [q]; exact hb)⟩
  have fr0 : ∀ b ∈ fp, (upd H2 s2.heap.objs.size (.lst [])) b = none := fun b hb => by
    obtain ⟨o, e, _⟩ := T.obj _ _ st2 b hb
    rw [upd_ne (Nat.ne_of_lt (Heap.lt_size e))]
    exact (f2 b hb).1
  have envEq : (newEnv scope G2.objs.size X.env.globals cl X.env.qual none .none (some X.env) X.env.builtins) = (newEnv scope (s2.heap.objs.size + 1) X.env.globals cl X.env.qual none .none (some X.env) X.env.builtins) := by rw [hC]
  have fin : ∀ {σ' : St} {H' : Hp} {s' : Shared}, Inv (cxC X N scope cl (s2.heap.objs.size + 1) s2 H2 fp) [] σ' H' s' → Q (.ref s2.heap.objs.size) H' → compPost (model X.prog X.w) X.A X.xe none (EP X pins σ Q) (.ref s2.heap.objs.size) (s2.heap.objs.size + 1) (.ok .next) s' := by
    intro σ' H' s' J' q
    obtain ⟨m, hm, _⟩ := id J'.loc
    refine ⟨m, hm, fun h'' sb => ?_⟩
    have keepC : ∀ b o, b ≠ s2.heap.objs.size + 1 → s'.heap.get? b = some o → h''.get? b = some o := fun b o hb e => sb.extBut b o hb e
    have u0 := J'.base
    have neC : ∀ b o, s2.heap.get? b = some o → b ≠ s2.heap.objs.size + 1 := fun b o e => Nat.ne_of_lt (Nat.lt_succ_of_lt (Heap.lt_size e))
    have u : Un (frs X.stack) fp H2 H' s2.heap h'' := ⟨fun b o e n hb hx => keepC b o (neC b o e) (u0.keep b o e n hb hx), fun b o e n hb hx => by
        obtain ⟨sl, e1⟩ := u0.slot b o e n hb hx
        exact ⟨sl, keepC b _ (neC b o e) e1⟩, u0.free, fun b o e hx => by
        obtain ⟨o', e1⟩ := u0.there b o e hx
        exact ⟨o', keepC b o' (neC b o e) e1⟩, u0.tups, u0.frzs, u0.tbls⟩
    have freeC : H' (s2.heap.objs.size + 1) = none := J'.free
    have hok : HOk X.prog X.w H' h'' := fun b o e => (J'.hok b o e).stay (fun c v hcc r => keepC c v (by
        intro z
        rcases hcc with q1 | q1
        · rw [← q1, z, freeC] at e; cases e
        · rw [z, freeC] at q1; cases q1) r) (fun _ z => z) fun _ _ z => z
    exact ⟨.ref s2.heap.objs.size, H', I2.call' (s' := { s' with heap := h'' }) J'.os u hok J'.bare fun b hb => ⟨(f2 b hb).2.2.2.1, (f2 b hb).2.1, (f2 b hb).2.2.2.2.1, (f2 b hb).2.2.2.2.2⟩, rfl, q⟩
  have loop : codeAny (model X.prog X.w) X.A (.compLoop (.ListComp elt [⟨tg, iter, ifs, 0⟩] scope pos) 0 (.ref it) (.ref s2.heap.objs.size) (compEnvC scope cl (s2.heap.objs.size + 1) X.env))
      (compPost (model X.prog X.w) X.A X.xe none (EP X pins σ Q) (.ref s2.heap.objs.size) (s2.heap.objs.size + 1)) { s2 with heap := h₁, toks := s2.toks + ([] : List (Str × Value)).length } := by
    refine compLoop_go (fun n s' => ∃ i σ' H', Inv (cxC X N scope cl (s2.heap.objs.size + 1) s2 H2 fp) [] σ' H' s' ∧ tn i s'.heap ∧ (∀ b ∈ fp, H' b = none) ∧ W i n σ' H') ?_ m0 ⟨0, _, _, I4, st4, fr0, w0⟩
    rintro n s3 ⟨i, σ3, H3, I3, st3, fr3, w3⟩
    rcases turn i n σ3 H3 w3 with ⟨stop, qn⟩ | ⟨go, N', hN, step⟩
    · refine (thn (T.done (cxC X N scope cl (s2.heap.objs.size + 1) s2 H2 fp) rfl rfl rfl hc i [] s3 σ3 H3 (fun _ _ => False) I3 (stat fr3 (fun _ z => nomatch z)) st3 stop) fun r s4 ⟨hr, I4'⟩ => ?_)
      subst hr
      exact fin I4' qn
    · refine (thn (T.item (cxC X N scope cl (s2.heap.objs.size + 1) s2 H2 fp) rfl rfl rfl hc i [] s3 σ3 H3 (fun _ _ => False) I3 (stat fr3 (fun _ z => nomatch z)) st3 go) fun r s4 ⟨u, hr, h4⟩ => ?_)
      subst hr
      refine thn h4 fun _ s5 ⟨x, H5, I5, r5, y5, st5, fr5⟩ => ?_
      have I5' := I5.pinned (pins := []) (stat fr5 (fun _ z => nomatch z)) (T.obj _ _ st5)
      refine (thn (hg (s2.heap.objs.size + 1) s2 H2 fp _ s5 σ3 H5 x u _ I5' r5 (step x H5 y5)) fun _ s6 ⟨σ6, H6, I6, q6⟩ => ?_)
      refine (thn (ht (s2.heap.objs.size + 1) s2 H2 fp _ s6 σ6 H6 _ I6 q6) fun b s7 ⟨H7, I7, q7⟩ => ?_)
      have again : ∀ {σ7 : St} {H7 : Hp} {s7 : Shared}, Inv (cxC X N scope cl (s2.heap.objs.size + 1) s2 H2 fp) ([] ++ pinsAt fp s5.heap) σ7 H7 s7 → N' σ7 H7 → ∃ m, m < n ∧ ∃ i σ' H', Inv (cxC X N scope cl (s2.heap.objs.size + 1) s2 H2 fp) [] σ' H' s7 ∧ tn i s7.heap ∧ (∀ b ∈ fp, H' b = none) ∧ W i m σ' H' := fun {σ7 H7 s7} I7 n7 => by
        obtain ⟨m', hm, w7⟩ := hN σ7 H7 n7
        refine ⟨m', hm, i + 1, σ7, H7, I7.unpinned, T.keep _ _ _ st5 fun b hb o e => (I7.pin (b, o) (List.mem_append_right _ (List.mem_append_right _ (mem_pinsAt hb e)))).1, fun b hb => ?_, w7⟩
        obtain ⟨o, e, d⟩ := T.obj _ _ st5 b hb
        exact (I7.pin (b, o) (List.mem_append_right _ (List.mem_append_right _ (mem_pinsAt hb e)))).2.1
      cases b with
      | false =>
        rw [if_neg Bool.false_ne_true] at q7 ⊢
        exact again I7 q7
      | true =>
        rw [if_pos rfl] at q7 ⊢
        refine (thn (he (s2.heap.objs.size + 1) s2 H2 fp _ s7 σ6 H7 _ I7 q7) fun y s8 ⟨yv, H8, I8, ry, xs, hx, hz, n8⟩ => ?_)
        refine (thn (mt_append (X := cxC X N scope cl (s2.heap.objs.size + 1) s2 H2 fp) _ s8 σ6 H8 (.ref s2.heap.objs.size) [yv] (.ref s2.heap.objs.size) [y] (fun _ H' => N' σ6 H') I8 rfl (.cons ry .nil) ⟨_, xs, yv, rfl, rfl, hx, hz, n8⟩) fun _ s9 ⟨_, H9, I9, _, n9⟩ => ?_)
        exact again I9 n9
  have goal := codeAny_compStart_list loop (T.self X.A 0 { s2 with heap := h₁, toks := s2.toks + ([] : List (Str × Value)).length } _ _ st4 loop)
  rw [hC]
  exact goal
end
end L2

set_option Elab.async false
set_option linter.all false
set_option maxRecDepth 100000
set_option maxHeartbeats 4000000
namespace L2
open PySem PySem.Spec PyProof.Rows

/-! ### plain data, and == of what stands in the heap -/
inductive D where
  | non
  | bl (b : Bool)
  | int (i : Int)
  | str (x : Str)
  | tup (l : List D)
  | lst (l : List D)
mutual
def Rep (K : PySem.W.Frag) (H : Hp) : D → V → Prop
  | .non, v => v = .non
  | .bl b, v => v = .bl b
  | .int i, v => v = .int i
  | .str x, v => v = .str x
  | .tup ds, v => ∃ p xs, v = .ref p ∧ SqT K H p xs ∧ Reps K H ds xs
  | .lst ds, v => ∃ p xs, v = .ref p ∧ SqL K H p xs ∧ Reps K H ds xs
def Reps (K : PySem.W.Frag) (H : Hp) : List D → List V → Prop
  | [], xs => xs = []
  | d :: ds, xs => ∃ x r, xs = x :: r ∧ Rep K H d x ∧ Reps K H ds r
end
mutual
def eqD : D → D → Bool
  | .non, .non => true
  | .bl a, .bl b => a == b
  | .bl a, .int b => (if a then 1 else 0) == b
  | .int a, .bl b => a == (if b then 1 else 0)
  | .int a, .int b => a == b
  | .str a, .str b => a == b
  | .tup a, .tup b => eqDs a b
  | .lst a, .lst b => eqDs a b
  | _, _ => false
def eqDs : List D → List D → Bool
  | [], [] => true
  | a :: r, b :: t => eqD a b && eqDs r t
  | _, _ => false
end
mutual
def D.dep : D → Nat
  | .tup l => deps l + 1
  | .lst l => deps l + 1
  | _ => 0
def deps : List D → Nat
  | [] => 0
  | d :: r => max d.dep (deps r)
end
theorem Reps.len {K : PySem.W.Frag} {H : Hp} : ∀ {ds : List D} {xs : List V}, Reps K H ds xs → ds.length = xs.length
  | [], xs, h => by
    unfold Reps at h; subst h; rfl
  | d :: ds, xs, h => by
    unfold Reps at h
    obtain ⟨x, r, rfl, _, h⟩ := h
    rw [List.length_cons, List.length_cons, Reps.len h]
theorem Reps.get {K : PySem.W.Frag} {H : Hp} : ∀ {ds : List D} {xs : List V} {j : Nat} {d : D}, Reps K H ds xs → ds[j]? = some d → ∃ x, xs[j]? = some x ∧ Rep K H d x
  | [], xs, j, d, h, e => by cases e
  | a :: ds, xs, j, d, h, e => by
    unfold Reps at h
    obtain ⟨x, r, rfl, h1, h2⟩ := h
    match j, e with
    | 0, e => cases e; exact ⟨x, rfl, h1⟩
    | j + 1, e => exact Reps.get (ds := ds) (j := j) h2 (by simpa using e)
mutual
theorem eqD_refl : ∀ d : D, eqD d d = true
  | .non => rfl
  | .bl b => by unfold eqD; simp
  | .int i => by unfold eqD; simp
  | .str x => by unfold eqD; simp
  | .tup l => by unfold eqD; exact eqDs_refl l
  | .lst l => by unfold eqD; exact eqDs_refl l
theorem eqDs_refl : ∀ l : List D, eqDs l l = true
  | [] => by unfold eqDs; rfl
  | d :: r => by unfold eqDs; rw [eqD_refl d, eqDs_refl r]; rfl
end
section
variable {X : Cx} {pins : List (Addr × Obj)} {σ : St} {H : Hp} {s : Shared}
theorem Inv.list_tup (I : Inv X pins σ H s) {a : Addr} {xs ys : List V} (h1 : SqL X.K H a xs) (h2 : SqT X.K H a ys) : False := by
  obtain ⟨its, _, ⟨o, n, e1, c1, _⟩, _⟩ := I.list h1
  obtain ⟨its2, _, ⟨o2, e2, c2, _⟩, _⟩ := I.tuple h2
  rw [e1] at e2; cases e2
  rw [c1] at c2
  injection c2 with c3
  exact absurd c3 (by decide)
mutual
theorem rep_inj (I : Inv X pins σ H s) : ∀ (d e : D) (v : V), Rep X.K H d v → Rep X.K H e v → d = e
  | .non, e, v, h1, h2 => by
    unfold Rep at h1; subst h1
    cases e <;> (unfold Rep at h2; first | rfl | (obtain ⟨_, _, z, _⟩ := h2; cases z; done) | cases h2)
  | .bl b, e, v, h1, h2 => by
    unfold Rep at h1; subst h1
    cases e <;> (unfold Rep at h2; first | (obtain ⟨_, _, z, _⟩ := h2; cases z; done) | (cases h2; rfl) | cases h2)
  | .int b, e, v, h1, h2 => by
    unfold Rep at h1; subst h1
    cases e <;> (unfold Rep at h2; first | (obtain ⟨_, _, z, _⟩ := h2; cases z; done) | (cases h2; rfl) | cases h2)
  | .str b, e, v, h1, h2 => by
    unfold Rep at h1; subst h1
    cases e <;> (unfold Rep at h2; first | (obtain ⟨_, _, z, _⟩ := h2; cases z; done) | (cases h2; rfl) | cases h2)
  | .tup l, e, v, h1, h2 => by
    unfold Rep at h1
    obtain ⟨p, xs, rfl, q, r⟩ := h1
    cases e with
    | tup l2 =>
      unfold Rep at h2
      obtain ⟨p2, xs2, z, q2, r2⟩ := h2
      cases z
      rw [I.tuple_inj q2 q] at r2
      rw [reps_inj I l l2 xs r r2]
    | lst l2 =>
      unfold Rep at h2
      obtain ⟨p2, xs2, z, q2, r2⟩ := h2
      cases z
      exact (I.list_tup q2 q).elim
    | _ => unfold Rep at h2; cases h2
  | .lst l, e, v, h1, h2 => by
    unfold Rep at h1
    obtain ⟨p, xs, rfl, q, r⟩ := h1
    cases e with
    | lst l2 =>
      unfold Rep at h2
      obtain ⟨p2, xs2, z, q2, r2⟩ := h2
      cases z
      rw [I.list_inj q2 q] at r2
      rw [reps_inj I l l2 xs r r2]
    | tup l2 =>
      unfold Rep at h2
      obtain ⟨p2, xs2, z, q2, r2⟩ := h2
      cases z
      exact (I.list_tup q q2).elim
    | _ => unfold Rep at h2; cases h2
theorem reps_inj (I : Inv X pins σ H s) : ∀ (ds es : List D) (xs : List V), Reps X.K H ds xs → Reps X.K H es xs → ds = es
  | [], es, xs, h1, h2 => by
    unfold Reps at h1; subst h1
    cases es with
    | nil => rfl
    | cons e es => unfold Reps at h2; obtain ⟨_, _, z, _⟩ := h2; cases z
  | d :: ds, es, xs, h1, h2 => by
    unfold Reps at h1
    obtain ⟨x, r, rfl, a, b⟩ := h1
    cases es with
    | nil => unfold Reps at h2; cases h2
    | cons e es =>
      unfold Reps at h2
      obtain ⟨x2, r2, z, a2, b2⟩ := h2
      cases z
      rw [rep_inj I d e x a a2, reps_inj I ds es r b b2]
end
theorem eqDs_all : ∀ (ds es : List D), ds.length = es.length → (List.range ds.length).all (fun j => match ds[j]?, es[j]? with
    | some d, some e => eqD d e
    | _, _ => false) = eqDs ds es
  | [], [], _ => by unfold eqDs; rfl
  | d :: ds, e :: es, h => by
    rw [List.length_cons, List.range_succ_eq_map, List.all_cons, List.all_map]
    unfold eqDs
    rw [← eqDs_all ds es (by simpa using h)]
    rfl
theorem eqDs_len : ∀ (ds es : List D), ds.length ≠ es.length → eqDs ds es = false
  | [], [], h => absurd rfl h
  | [], _ :: _, _ => by unfold eqDs; rfl
  | _ :: _, [], _ => by unfold eqDs; rfl
  | d :: ds, e :: es, h => by
    unfold eqDs
    rw [eqDs_len ds es (by simpa using h), Bool.and_false]
def eAt (ds es : List D) (j : Nat) : Bool := match ds[j]?, es[j]? with
    | some d, some e => eqD d e
    | _, _ => false
theorem items_eq {A : Around} {ds es : List D} {xs ys : List V} {us vs : List Value} (r1 : Reps X.K H ds xs) (r2 : Reps X.K H es ys) (v1 : Vals xs us) (v2 : Vals ys vs)
    (ih : ∀ (j : Nat) (d e : D) (x y : V) (u v : Value), ds[j]? = some d → es[j]? = some e → Rep X.K H d x → Rep X.K H e y → RelV x u → RelV y v → SeqAt.EqAt A s u v (eqD d e)) :
    ∀ j (h1 : j < us.toArray.size) (h2 : j < vs.toArray.size), SeqAt.EqAt A s us.toArray[j] vs.toArray[j] (eAt ds es j) := by
  intro j h1 h2
  rw [List.size_toArray] at h1 h2
  have l1 := r1.len
  have l2 := r2.len
  have l3 := v1.length
  have l4 := v2.length
  have e1 : ds[j]? = some (ds[j]'(by omega)) := List.getElem?_eq_getElem _
  have e2 : es[j]? = some (es[j]'(by omega)) := List.getElem?_eq_getElem _
  obtain ⟨x, hx, px⟩ := r1.get e1
  obtain ⟨y, hy, py⟩ := r2.get e2
  obtain ⟨u, hu, ru⟩ := v1.get hx
  obtain ⟨v, hv, rv⟩ := v2.get hy
  have q := ih j _ _ x y u v e1 e2 px py ru rv
  have hu' : us.toArray[j]'(by simpa using h1) = u := by
    have := List.getElem?_eq_getElem h1
    rw [hu] at this
    simpa using (Option.some.inj this).symm
  have hv' : vs.toArray[j]'(by simpa using h2) = v := by
    have := List.getElem?_eq_getElem h2
    rw [hv] at this
    simpa using (Option.some.inj this).symm
  rw [hu', hv']
  unfold eAt
  rw [e1, e2]
  exact q
theorem range_lst {ds es : List D} {n : Nat} (h : ds.length = n) (h2 : es.length = n) : (List.range n).all (eAt ds es) = eqDs ds es := by
  rw [← h, ← eqDs_all ds es (h.trans h2.symm)]
  rfl
theorem range_tup {ds es : List D} {n m : Nat} (h : ds.length = n) (h2 : es.length = m) : ((List.range (min n m)).all (eAt ds es) && (n == m)) = eqDs ds es := by
  by_cases e : n = m
  · subst e
    rw [Nat.min_self, range_lst h h2]
    simp
  · have e2 : (n == m) = false := by simpa using e
    rw [e2, Bool.and_false, eqDs_len ds es (by rw [h, h2]; exact e)]
/-- both heads at once: of two lists, of two tuples -/
theorem rc_lists {A : Around} {l b : Addr} {ds es : List D} {xs ys : List V} (I : Inv X pins σ H s) (h1 : SqL X.K H l xs) (h2 : SqL X.K H b ys) (r1 : Reps X.K H ds xs) (r2 : Reps X.K H es ys) (hu : A.units < cLine)
    (ih : ∀ (j : Nat) (d e : D) (x y : V) (u v : Value), ds[j]? = some d → es[j]? = some e → Rep X.K H d x → Rep X.K H e y → RelV x u → RelV y v → SeqAt.EqAt A.in1 s u v (eqD d e)) :
    SeqAt.RcAt A s (.ref l) (.ref b) (eqDs ds es) ∧ SeqAt.RcNeAt A s (.ref l) (.ref b) (!eqDs ds es) := by
  obtain ⟨us, v1, p1, z1⟩ := I.list h1
  obtain ⟨vs, v2, p2, z2⟩ := I.list h2
  have l1 := r1.len
  have l2 := r2.len
  have l3 := v1.length
  have l4 := v2.length
  by_cases e : us.length = vs.length
  · have it := items_eq r1 r2 v1 v2 ih
    have a1 := SeqAt.RcAt.lists (A := A) p1.isList p2.isList (by simpa using e) hu it
    have a2 := SeqAt.RcNeAt.lists (A := A) p1.isList p2.isList (by simpa using e) hu it
    rw [range_lst (ds := ds) (es := es) (by simp; omega) (by simp; omega)] at a1 a2
    exact ⟨a1, a2⟩
  · have ne : (us.toArray.size != vs.toArray.size) = true := by simpa using e
    rw [eqDs_len ds es (by omega)]
    exact ⟨SeqAt.RcAt.lists_lengths p1.isList p2.isList ne hu, SeqAt.RcNeAt.lists_lengths p1.isList p2.isList ne hu⟩
theorem rc_tups {A : Around} {l b : Addr} {ds es : List D} {xs ys : List V} (I : Inv X pins σ H s) (h1 : SqT X.K H l xs) (h2 : SqT X.K H b ys) (r1 : Reps X.K H ds xs) (r2 : Reps X.K H es ys) (hu : A.units < cLine)
    (ih : ∀ (j : Nat) (d e : D) (x y : V) (u v : Value), ds[j]? = some d → es[j]? = some e → Rep X.K H d x → Rep X.K H e y → RelV x u → RelV y v → SeqAt.EqAt A.in1 s u v (eqD d e)) :
    SeqAt.RcAt A s (.ref l) (.ref b) (eqDs ds es) ∧ SeqAt.RcNeAt A s (.ref l) (.ref b) (!eqDs ds es) := by
  obtain ⟨us, v1, p1, z1⟩ := I.tuple h1
  obtain ⟨vs, v2, p2, z2⟩ := I.tuple h2
  have l1 := r1.len
  have l2 := r2.len
  have l3 := v1.length
  have l4 := v2.length
  have it := items_eq r1 r2 v1 v2 ih
  have a1 := SeqAt.RcAt.tuples (A := A) (show s.heap.IsTuple l us.toArray from p1) (show s.heap.IsTuple b vs.toArray from p2) hu it
  have a2 := SeqAt.RcNeAt.tuples (A := A) (show s.heap.IsTuple l us.toArray from p1) (show s.heap.IsTuple b vs.toArray from p2) hu it
  rw [range_tup (ds := ds) (es := es) (by simp; omega) (by simp; omega)] at a1 a2
  exact ⟨a1, a2⟩
theorem deps_get : ∀ {l : List D} {j : Nat} {d : D}, l[j]? = some d → d.dep ≤ deps l
  | a :: l, 0, d, e => by cases e; unfold deps; omega
  | a :: l, j + 1, d, e => by
    have := deps_get (l := l) (j := j) (d := d) (by simpa using e)
    unfold deps; omega
theorem rep_eq (I : Inv X pins σ H s) : ∀ (n : Nat) (A : Around) (d e : D) (x y : V) (u v : Value), d.dep ≤ n → A.units + n < cLine → Rep X.K H d x → Rep X.K H e y → RelV x u → RelV y v → SeqAt.EqAt A s u v (eqD d e) := by
  intro n
  induction n with
  | zero =>
    intro A d e x y u v hd hu r1 r2 ru rv
    have hu0 : A.units < cLine := by omega
    cases d with
    | tup l => unfold D.dep at hd; omega
    | lst l => unfold D.dep at hd; omega
    | non =>
      unfold Rep at r1; subst r1; cases ru
      cases e with
      | non => unfold Rep at r2; subst r2; cases rv; exact SeqAt.EqAt.same _
      | bl b => unfold Rep at r2; subst r2; cases rv; exact SeqAt.EqAt.none_bool b
      | int b => unfold Rep at r2; subst r2; obtain ⟨t, rfl⟩ := rv; exact SeqAt.EqAt.none_int b t
      | str b => unfold Rep at r2; subst r2; obtain ⟨t, rfl⟩ := rv; exact SeqAt.EqAt.none_str b t
      | tup l => unfold Rep at r2; obtain ⟨p, xs, rfl, q, _⟩ := r2; cases rv; obtain ⟨us, _, pt, _⟩ := I.tuple q; exact SeqAt.EqAt.none_tuple (show s.heap.IsTuple p us.toArray from pt) hu0
      | lst l => unfold Rep at r2; obtain ⟨p, xs, rfl, q, _⟩ := r2; cases rv; obtain ⟨us, _, pt, _⟩ := I.list q; exact SeqAt.EqAt.none_list pt.isList hu0
    | bl a =>
      unfold Rep at r1; subst r1; cases ru
      cases e with
      | non => unfold Rep at r2; subst r2; cases rv; exact SeqAt.EqAt.bool_none a
      | bl b => unfold Rep at r2; subst r2; cases rv; exact SeqAt.EqAt.bool_bool a b
      | int b => unfold Rep at r2; subst r2; obtain ⟨t, rfl⟩ := rv; exact SeqAt.EqAt.bool_int a b t
      | str b => unfold Rep at r2; subst r2; obtain ⟨t, rfl⟩ := rv; exact SeqAt.EqAt.bool_str a b t
      | tup l => unfold Rep at r2; obtain ⟨p, xs, rfl, q, _⟩ := r2; cases rv; obtain ⟨us, _, pt, _⟩ := I.tuple q; exact SeqAt.EqAt.bool_tuple a (show s.heap.IsTuple p us.toArray from pt) hu0
      | lst l => unfold Rep at r2; obtain ⟨p, xs, rfl, q, _⟩ := r2; cases rv; obtain ⟨us, _, pt, _⟩ := I.list q; exact SeqAt.EqAt.bool_list a pt.isList hu0
    | int a =>
      unfold Rep at r1; subst r1; obtain ⟨t1, rfl⟩ := ru
      cases e with
      | non => unfold Rep at r2; subst r2; cases rv; exact SeqAt.EqAt.int_none a t1
      | bl b => unfold Rep at r2; subst r2; cases rv; exact SeqAt.EqAt.int_bool a t1 b
      | int b => unfold Rep at r2; subst r2; obtain ⟨t, rfl⟩ := rv; exact SeqAt.EqAt.int_int a t1 b t
      | str b => unfold Rep at r2; subst r2; obtain ⟨t, rfl⟩ := rv; exact SeqAt.EqAt.int_str a t1 b t
      | tup l => unfold Rep at r2; obtain ⟨p, xs, rfl, q, _⟩ := r2; cases rv; obtain ⟨us, _, pt, _⟩ := I.tuple q; exact SeqAt.EqAt.int_tuple a t1 (show s.heap.IsTuple p us.toArray from pt) hu0
      | lst l => unfold Rep at r2; obtain ⟨p, xs, rfl, q, _⟩ := r2; cases rv; obtain ⟨us, _, pt, _⟩ := I.list q; exact SeqAt.EqAt.int_list a t1 pt.isList hu0
    | str a =>
      unfold Rep at r1; subst r1; obtain ⟨t1, rfl⟩ := ru
      cases e with
      | non => unfold Rep at r2; subst r2; cases rv; exact SeqAt.EqAt.str_none a t1
      | bl b => unfold Rep at r2; subst r2; cases rv; exact SeqAt.EqAt.str_bool a t1 b
      | int b => unfold Rep at r2; subst r2; obtain ⟨t, rfl⟩ := rv; exact SeqAt.EqAt.str_int a t1 b t
      | str b => unfold Rep at r2; subst r2; obtain ⟨t, rfl⟩ := rv; exact SeqAt.EqAt.str_str a t1 b t
      | tup l => unfold Rep at r2; obtain ⟨p, xs, rfl, q, _⟩ := r2; cases rv; obtain ⟨us, _, pt, _⟩ := I.tuple q; exact SeqAt.EqAt.str_tuple a t1 (show s.heap.IsTuple p us.toArray from pt) hu0
      | lst l => unfold Rep at r2; obtain ⟨p, xs, rfl, q, _⟩ := r2; cases rv; obtain ⟨us, _, pt, _⟩ := I.list q; exact SeqAt.EqAt.str_list a t1 pt.isList hu0
  | succ n ihn =>
    intro A d e x y u v hd hu r1 r2 ru rv
    have hu0 : A.units < cLine := by omega
    have hu1 : A.in1.units + n < cLine := by show A.units + 1 + n < cLine; omega
    cases d with
    | tup l =>
      have r1' := r1
      unfold Rep at r1
      obtain ⟨p, xs, rfl, q, rs⟩ := r1
      cases ru
      have hd' : deps l ≤ n := by unfold D.dep at hd; omega
      obtain ⟨us, _, pt, _⟩ := id (I.tuple q)
      cases e with
      | non => unfold Rep at r2; subst r2; cases rv; exact SeqAt.EqAt.tuple_none (show s.heap.IsTuple p us.toArray from pt) hu0
      | bl b => unfold Rep at r2; subst r2; cases rv; exact SeqAt.EqAt.tuple_bool b (show s.heap.IsTuple p us.toArray from pt) hu0
      | int b => unfold Rep at r2; subst r2; obtain ⟨t, rfl⟩ := rv; exact SeqAt.EqAt.tuple_int b t (show s.heap.IsTuple p us.toArray from pt) hu0
      | str b => unfold Rep at r2; subst r2; obtain ⟨t, rfl⟩ := rv; exact SeqAt.EqAt.tuple_str b t (show s.heap.IsTuple p us.toArray from pt) hu0
      | tup l2 =>
        have r2' := r2
        unfold Rep at r2
        obtain ⟨p2, xs2, rfl, q2, rs2⟩ := r2
        cases rv
        by_cases hp : p = p2
        · subst hp
          rw [rep_inj I _ _ _ r1' r2', eqD_refl]
          exact SeqAt.EqAt.same _
        · unfold eqD
          exact SeqAt.EqAt.of_refs hp (rc_tups I q q2 rs rs2 hu0 fun j d e x y u v e1 e2 a b c f => ihn A.in1 d e x y u v (Nat.le_trans (deps_get e1) hd') hu1 a b c f).1
      | lst l2 =>
        unfold Rep at r2
        obtain ⟨p2, xs2, rfl, q2, rs2⟩ := r2
        cases rv
        obtain ⟨us2, _, pt2, _⟩ := I.list q2
        exact SeqAt.EqAt.tuple_list (show s.heap.IsTuple p us.toArray from pt) pt2.isList hu0
    | lst l =>
      have r1' := r1
      unfold Rep at r1
      obtain ⟨p, xs, rfl, q, rs⟩ := r1
      cases ru
      have hd' : deps l ≤ n := by unfold D.dep at hd; omega
      obtain ⟨us, _, pt, _⟩ := id (I.list q)
      cases e with
      | non => unfold Rep at r2; subst r2; cases rv; exact SeqAt.EqAt.list_none pt.isList hu0
      | bl b => unfold Rep at r2; subst r2; cases rv; exact SeqAt.EqAt.list_bool b pt.isList hu0
      | int b => unfold Rep at r2; subst r2; obtain ⟨t, rfl⟩ := rv; exact SeqAt.EqAt.list_int b t pt.isList hu0
      | str b => unfold Rep at r2; subst r2; obtain ⟨t, rfl⟩ := rv; exact SeqAt.EqAt.list_str b t pt.isList hu0
      | lst l2 =>
        have r2' := r2
        unfold Rep at r2
        obtain ⟨p2, xs2, rfl, q2, rs2⟩ := r2
        cases rv
        by_cases hp : p = p2
        · subst hp
          rw [rep_inj I _ _ _ r1' r2', eqD_refl]
          exact SeqAt.EqAt.same _
        · unfold eqD
          exact SeqAt.EqAt.of_refs hp (rc_lists I q q2 rs rs2 hu0 fun j d e x y u v e1 e2 a b c f => ihn A.in1 d e x y u v (Nat.le_trans (deps_get e1) hd') hu1 a b c f).1
      | tup l2 =>
        unfold Rep at r2
        obtain ⟨p2, xs2, rfl, q2, rs2⟩ := r2
        cases rv
        obtain ⟨us2, _, pt2, _⟩ := I.tuple q2
        exact SeqAt.EqAt.list_tuple pt.isList (show s.heap.IsTuple p2 us2.toArray from pt2) hu0
    | _ => exact ihn A _ e x y u v (by unfold D.dep; exact Nat.zero_le _) (by omega) r1 r2 ru rv
/-- == and != of two lists, of two tuples, whatever stands in them (data) -/
def rEqS (K : PySem.W.Frag) (neg : Bool) : R2 := fun x y H Q => ∃ ds es, ((Rep K H (.lst ds) x ∧ Rep K H (.lst es) y) ∨ (Rep K H (.tup ds) x ∧ Rep K H (.tup es) y)) ∧ deps ds ≤ 50 ∧ Q (.bl (if neg then !eqDs ds es else eqDs ds es)) H
theorem rc_both (I : Inv X pins σ H s) {x y : V} {u v : Value} {ds es : List D} (hA : X.A.units + 60 < cLine) (ru : RelV x u) (rv : RelV y v) (h : (Rep X.K H (.lst ds) x ∧ Rep X.K H (.lst es) y) ∨ (Rep X.K H (.tup ds) x ∧ Rep X.K H (.tup es) y)) (hd : deps ds ≤ 50) :
    SeqAt.RcAt X.A s u v (eqDs ds es) ∧ SeqAt.RcNeAt X.A s u v (!eqDs ds es) := by
  have ih : ∀ (j : Nat) (d e : D) (x y : V) (u v : Value), ds[j]? = some d → es[j]? = some e → Rep X.K H d x → Rep X.K H e y → RelV x u → RelV y v → SeqAt.EqAt X.A.in1 s u v (eqD d e) :=
    fun j d e x y u v e1 e2 a b c f => rep_eq I 50 X.A.in1 d e x y u v (Nat.le_trans (deps_get e1) hd) (by show X.A.units + 1 + 50 < cLine; omega) a b c f
  rcases h with ⟨h1, h2⟩ | ⟨h1, h2⟩
  · unfold Rep at h1 h2
    obtain ⟨p, xs, rfl, q, rs⟩ := h1
    obtain ⟨p2, xs2, rfl, q2, rs2⟩ := h2
    cases ru; cases rv
    exact rc_lists I q q2 rs rs2 (by omega) ih
  · unfold Rep at h1 h2
    obtain ⟨p, xs, rfl, q, rs⟩ := h1
    obtain ⟨p2, xs2, rfl, q2, rs2⟩ := h2
    cases ru; cases rv
    exact rc_tups I q q2 rs rs2 (by omega) ih
theorem op_neS (hA : X.A.units + 60 < cLine) : OpR X (compareOp .NotEq) (rEqS X.K true) := by
  intro pins s σ H x y u v Q I ru rv h
  obtain ⟨ds, es, h, hd, q⟩ := h
  exact (rc_both I hA ru rv h hd).2 X.prog X.w X.xe _ ⟨.bl (!eqDs ds es), H, I, rfl, q⟩
/-- a list beside the empty one, whatever stands in it -/
theorem op_neNil (hA : X.A.units + 60 < cLine) : OpR X (compareOp .NotEq) (fun x y H Q => ∃ p b xs, x = .ref p ∧ y = .ref b ∧ SqL X.K H p xs ∧ SqL X.K H b [] ∧ Q (.bl (!xs.isEmpty)) H) := by
  intro pins s σ H x y u v Q I ru rv h
  obtain ⟨p, b, xs, rfl, rfl, q1, q2, q⟩ := h
  cases ru; cases rv
  obtain ⟨us, v1, p1, _⟩ := I.list q1
  obtain ⟨vs, v2, p2, _⟩ := I.list q2
  cases v2
  cases v1 with
  | nil =>
    have a := SeqAt.RcNeAt.lists (A := X.A) (e := fun _ => true) p1.isList p2.isList rfl (by omega) (fun j h1 _ => absurd h1 (by simp))
    exact a X.prog X.w X.xe _ ⟨.bl false, H, I, rfl, q⟩
  | cons r1 r2 =>
    exact SeqAt.RcNeAt.lists_lengths (A := X.A) p1.isList p2.isList (by simp) (by omega) X.prog X.w X.xe _ ⟨.bl true, H, I, rfl, q⟩
end
end L2

set_option Elab.async false
set_option linter.all false
set_option maxRecDepth 100000
set_option maxHeartbeats 4000000
namespace L2
open PySem PySem.Spec PyProof.Rows
section
variable {X : Cx} {pos : Pos}
theorem hu60 {k : Nat} {A : Around} (hr : Room k A) : A.units + 60 < cLine := by have := hr.units; omega
/-! the names of a comprehension's block -/
def outChk (XN : List Str) (xn : List (Str × NameKind)) (N : List Str) (cn : List (Str × NameKind)) : List (Option Nat) → Nat → Bool
  | [], _ => true
  | none :: r, i => outChk XN xn N cn r (i + 1)
  | some j :: r, i => (match N[i]? with
    | some x => XN[j]? == some x && (xn.lookup x == some .cell || xn.lookup x == some .free) && cn.lookup x == some .free
    | none => false) && outChk XN xn N cn r (i + 1)
theorem outChk_ok {XN : List Str} {xn : List (Str × NameKind)} {N : List Str} {cn : List (Str × NameKind)} : ∀ {mp : List (Option Nat)} {k : Nat}, outChk XN xn N cn mp k = true → ∀ (i j : Nat), mp[i]? = some (some j) → ∃ x, N[k + i]? = some x ∧ XN[j]? = some x ∧ (xn.lookup x = some .cell ∨ xn.lookup x = some .free) ∧ cn.lookup x = some .free
  | [], k, h, i, j, e => by cases e
  | none :: r, k, h, 0, j, e => by cases e
  | none :: r, k, h, i + 1, j, e => by
    have := outChk_ok (mp := r) (k := k + 1) h i j (by simpa using e)
    rw [show k + (i + 1) = k + 1 + i by omega]; exact this
  | some m :: r, k, h, 0, j, e => by
    cases e
    unfold outChk at h
    rw [Bool.and_eq_true] at h
    have h1 := h.1
    cases en : N[k]? with
    | none => rw [en] at h1; cases h1
    | some x =>
      rw [en] at h1
      simp only [Bool.and_eq_true, Bool.or_eq_true, beq_iff_eq] at h1
      exact ⟨x, rfl, h1.1.1, h1.1.2, h1.2⟩
  | some m :: r, k, h, i + 1, j, e => by
    unfold outChk at h
    rw [Bool.and_eq_true] at h
    have := outChk_ok (mp := r) (k := k + 1) h.2 i j (by simpa using e)
    rw [show k + (i + 1) = k + 1 + i by omega]; exact this
theorem cs_of {N : List Str} {scope : Scope} (mp : List (Option Nat)) (h1 : scope.kind = .function) (h2 : ∀ y ∈ scope.names, y.2 ≠ .cell) (h3 : ∀ y ∈ scope.names, y.2 = .local → scope.names.lookup y.1 = some .local) (h4 : mp.length = N.length)
    (h5 : outChk X.N X.env.scope.names N scope.names mp 0 = true) : CompScope X N mp scope :=
  ⟨h1, h2, h3, h4, fun i j e => by
    obtain ⟨x, a, b, c, d⟩ := outChk_ok h5 i j e
    exact ⟨x, by simpa using a, b, c, d⟩⟩
/-- behind a turn of a comprehension; ys: what was put into the new list so far -/
def NextC (Pv : Nat → List V → St → Hp → Prop) (D : Addr) (i : Nat) : St → Hp → Prop := fun σ' H' => ∃ ys, ys.length ≤ i + 1 ∧ Pv (i + 1) ys σ' H' ∧ H' D = some (.lst ys)
/-- a comprehension over a list, a tuple: by what holds at each turn -/
theorem comp_list {K : PySem.W.Frag} {a : Addr} {xs : List V} {H1 : Hp} {D : Addr} {σ0 : St} {g : TG} {tt : TT} {te : TE} {R : Hp → Prop}
    (Pv : Nat → List V → St → Hp → Prop) (hl : ∀ i ys σ H2, Pv i ys σ H2 → SqL K H2 a xs) (h0 : Pv 0 [] σ0 (upd H1 D (.lst [])))
    (hs : ∀ i x ys σ H2, xs[i]? = some x → ys.length ≤ i → Pv i ys σ H2 → H2 D = some (.lst ys) → g x σ H2 fun σ3 H3 => tt σ3 H3 fun b H4 => if b = true then te σ3 H4 fun y H5 => ∃ zs, H5 D = some (.lst zs) ∧ zs.length < sizeLine ∧ NextC Pv D i σ3 (upd H5 D (.lst (zs ++ [y]))) else NextC Pv D i σ3 H4)
    (hd : ∀ ys σ H2, Pv xs.length ys σ H2 → H2 D = some (.lst ys) → R H2) :
    ∃ W : Nat → Nat → St → Hp → Prop, (∃ m, W 0 m σ0 (upd H1 D (.lst []))) ∧ ∀ i m σ2 H2, W i m σ2 H2 →
    ((Itl K a).stop i H2 ∧ R H2) ∨ ((Itl K a).go i H2 ∧ ∃ N : St → Hp → Prop, (∀ σ' H', N σ' H' → ∃ m', m' < m ∧ W (i + 1) m' σ' H') ∧ ∀ x H', (Itl K a).yld i H2 x H' → g x σ2 H' fun σ3 H3 => tt σ3 H3 fun b H4 =>
      if b = true then te σ3 H4 fun y H5 => ∃ xs, H5 D = some (.lst xs) ∧ xs.length < sizeLine ∧ N σ3 (upd H5 D (.lst (xs ++ [y]))) else N σ3 H4) := by
  refine ⟨fun i m σ H' => m = xs.length - i ∧ i ≤ xs.length ∧ ∃ ys, ys.length ≤ i ∧ Pv i ys σ H' ∧ H' D = some (.lst ys), ⟨xs.length, by simp, Nat.zero_le _, [], Nat.le_refl _, h0, upd_same⟩, ?_⟩
  rintro i m σ2 H2 ⟨rfl, hi, ys, hy, p, e⟩
  have q := hl i ys σ2 H2 p
  by_cases hlt : i < xs.length
  · refine .inr ⟨⟨xs, xs[i], q, by simp [hlt]⟩, NextC Pv D i, fun σ' H' ⟨ys', l', p', e'⟩ => ⟨xs.length - (i + 1), by omega, rfl, hlt, ys', l', p', e'⟩, fun x' H' y => ?_⟩
    obtain ⟨e1, y⟩ := y
    subst e1
    exact hs i x' ys σ2 _ (y xs q) hy p e
  · have ei : i = xs.length := by omega
    subst ei
    exact .inl ⟨⟨xs, q, Nat.le_refl _⟩, hd ys σ2 H2 p e⟩
theorem comp_tup {K : PySem.W.Frag} {a : Addr} {xs : List V} {H1 : Hp} {D : Addr} {σ0 : St} {g : TG} {tt : TT} {te : TE} {R : Hp → Prop}
    (Pv : Nat → List V → St → Hp → Prop) (hl : ∀ i ys σ H2, Pv i ys σ H2 → SqT K H2 a xs) (h0 : Pv 0 [] σ0 (upd H1 D (.lst [])))
    (hs : ∀ i x ys σ H2, xs[i]? = some x → ys.length ≤ i → Pv i ys σ H2 → H2 D = some (.lst ys) → g x σ H2 fun σ3 H3 => tt σ3 H3 fun b H4 => if b = true then te σ3 H4 fun y H5 => ∃ zs, H5 D = some (.lst zs) ∧ zs.length < sizeLine ∧ NextC Pv D i σ3 (upd H5 D (.lst (zs ++ [y]))) else NextC Pv D i σ3 H4)
    (hd : ∀ ys σ H2, Pv xs.length ys σ H2 → H2 D = some (.lst ys) → R H2) :
    ∃ W : Nat → Nat → St → Hp → Prop, (∃ m, W 0 m σ0 (upd H1 D (.lst []))) ∧ ∀ i m σ2 H2, W i m σ2 H2 →
    ((Itt K a).stop i H2 ∧ R H2) ∨ ((Itt K a).go i H2 ∧ ∃ N : St → Hp → Prop, (∀ σ' H', N σ' H' → ∃ m', m' < m ∧ W (i + 1) m' σ' H') ∧ ∀ x H', (Itt K a).yld i H2 x H' → g x σ2 H' fun σ3 H3 => tt σ3 H3 fun b H4 =>
      if b = true then te σ3 H4 fun y H5 => ∃ xs, H5 D = some (.lst xs) ∧ xs.length < sizeLine ∧ N σ3 (upd H5 D (.lst (xs ++ [y]))) else N σ3 H4) := by
  refine ⟨fun i m σ H' => m = xs.length - i ∧ i ≤ xs.length ∧ ∃ ys, ys.length ≤ i ∧ Pv i ys σ H' ∧ H' D = some (.lst ys), ⟨xs.length, by simp, Nat.zero_le _, [], Nat.le_refl _, h0, upd_same⟩, ?_⟩
  rintro i m σ2 H2 ⟨rfl, hi, ys, hy, p, e⟩
  have q := hl i ys σ2 H2 p
  by_cases hlt : i < xs.length
  · refine .inr ⟨⟨xs, xs[i], q, by simp [hlt]⟩, NextC Pv D i, fun σ' H' ⟨ys', l', p', e'⟩ => ⟨xs.length - (i + 1), by omega, rfl, hlt, ys', l', p', e'⟩, fun x' H' y => ?_⟩
    obtain ⟨e1, y⟩ := y
    subst e1
    exact hs i x' ys σ2 _ (y xs q) hy p e
  · have ei : i = xs.length := by omega
    subst ei
    exact .inl ⟨⟨xs, q, Nat.le_refl _⟩, hd ys σ2 H2 p e⟩
theorem comp_range {lo : Int} {n : Nat} {H1 : Hp} {D : Addr} {σ0 : St} {g : TG} {tt : TT} {te : TE} {R : Hp → Prop}
    (Pv : Nat → List V → St → Hp → Prop) (h0 : Pv 0 [] σ0 (upd H1 D (.lst [])))
    (hs : ∀ i ys σ H2, i < n → ys.length ≤ i → Pv i ys σ H2 → H2 D = some (.lst ys) → g (.int (lo + i)) σ H2 fun σ3 H3 => tt σ3 H3 fun b H4 => if b = true then te σ3 H4 fun y H5 => ∃ zs, H5 D = some (.lst zs) ∧ zs.length < sizeLine ∧ NextC Pv D i σ3 (upd H5 D (.lst (zs ++ [y]))) else NextC Pv D i σ3 H4)
    (hd : ∀ ys σ H2, Pv n ys σ H2 → H2 D = some (.lst ys) → R H2) :
    ∃ W : Nat → Nat → St → Hp → Prop, (∃ m, W 0 m σ0 (upd H1 D (.lst []))) ∧ ∀ i m σ2 H2, W i m σ2 H2 →
    ((Itr lo n).stop i H2 ∧ R H2) ∨ ((Itr lo n).go i H2 ∧ ∃ N : St → Hp → Prop, (∀ σ' H', N σ' H' → ∃ m', m' < m ∧ W (i + 1) m' σ' H') ∧ ∀ x H', (Itr lo n).yld i H2 x H' → g x σ2 H' fun σ3 H3 => tt σ3 H3 fun b H4 =>
      if b = true then te σ3 H4 fun y H5 => ∃ xs, H5 D = some (.lst xs) ∧ xs.length < sizeLine ∧ N σ3 (upd H5 D (.lst (xs ++ [y]))) else N σ3 H4) := by
  refine ⟨fun i m σ H' => m = n - i ∧ i ≤ n ∧ ∃ ys, ys.length ≤ i ∧ Pv i ys σ H' ∧ H' D = some (.lst ys), ⟨n, by simp, Nat.zero_le _, [], Nat.le_refl _, h0, upd_same⟩, ?_⟩
  rintro i m σ2 H2 ⟨rfl, hi, ys, hy, p, e⟩
  by_cases hlt : i < n
  · refine .inr ⟨hlt, NextC Pv D i, fun σ' H' ⟨ys', l', p', e'⟩ => ⟨n - (i + 1), by omega, rfl, hlt, ys', l', p', e'⟩, fun x' H' y => ?_⟩
    obtain ⟨e1, y⟩ := y
    subst e1 y
    exact hs i ys σ2 _ hlt hy p e
  · have ei : i = n := by omega
    subst ei
    exact .inl ⟨Nat.le_refl _, hd ys σ2 H2 p e⟩
end
end L2

set_option Elab.async false
set_option linter.all false
set_option maxRecDepth 100000
set_option maxHeartbeats 4000000
namespace L2
open PySem PySem.Spec PyProof.Rows

/-! ### zip of two tuples -/
section
variable {prog : Program} {w : World} {A : Around} {E : Value → Shared → Prop} {s : Shared}
theorem nextT_item {ti tt : Addr} {k : Nat} {vs : Array Value} {v : Value} {Q : Value → Shared → Prop} (hp : s.heap.IsTupleIter ti tt k) (hc : s.heap.IsTuple tt vs) (hv : vs[k]? = some v)
    (hq : ∀ g, g.IsTupleIter ti tt (k + 1) → Heap.SameBut ti s.heap g → Q v { s with heap := g }) : wpAny (model prog w) A (Builtin.SmallTypes.nextOf (.ref ti)) Q E s := by
  obtain ⟨ob, e0, e1, e2⟩ := id hp
  obtain ⟨oc, c0, _, nc, c2⟩ := hc
  unfold Builtin.SmallTypes.nextOf
  refine wpAny_bind (wpAny_callSpecial?_slot (name := Str.ofString "__next__") hp.typeIs F.slot_tuple_iterator_next (wpAny_call_entry F.slot_tuple_iterator_next hp.typeIs F.entry_tuple_iterator_next ?_ (F.args_tuple_iterator_next_1 _)))
  show wpAny _ _ (field (.ref ti) 0 >>= _) _ _ s
  refine wpAny_bind (wpAny_field e0 e2 (x := .ref tt) rfl ?_)
  show wpAny _ _ (if (Value.ref tt == Value.none) = true then _ else _) _ _ s
  rw [if_neg (show ¬ ((Value.ref tt == Value.none) = true) from Bool.false_ne_true)]
  show wpAny _ _ (field (.ref ti) 1 >>= _) _ _ s
  refine wpAny_bind (wpAny_field e0 e2 (x := .int k 0) rfl ?_)
  show wpAny _ _ (seqItems? (.ref tt) >>= _) _ _ s
  refine wpAny_bind (wpAny_seqItems c0 c2 ?_)
  simp only [Int.toNat_natCast, hv]
  refine wpAny_bind (wpAny_setField e0 e2 (by simp) (wpAny_pure ⟨v, rfl, wpAny_pure (hq _ ?_ (Heap.SameBut.update ..))⟩))
  exact ⟨_, Heap.get?_update_self _ e0 (Obj.isFreed_of_fields (Obj.data_mapFields e2 _)), (Obj.cls_mapFields ..).trans e1, by rw [Obj.data_mapFields e2]; simp [rawInt]⟩
theorem nextT_stop {ti tt : Addr} {k : Nat} {vs : Array Value} {Q : Value → Shared → Prop} (hh : A.handled = none) (hp : s.heap.IsTupleIter ti tt k) (hc : s.heap.IsTuple tt vs) (hv : vs[k]? = none)
    (hE : ∀ g e, Heap.ExtBut ti s.heap g → (∃ o, g.get? e = some o ∧ o.cls = .type "StopIteration") → E (.ref e) { s with heap := g }) : wpAny (model prog w) A (Builtin.SmallTypes.nextOf (.ref ti)) Q E s := by
  obtain ⟨ob, e0, e1, e2⟩ := id hp
  obtain ⟨oc, c0, _, nc, c2⟩ := hc
  unfold Builtin.SmallTypes.nextOf
  refine wpAny_bind (wpAny_callSpecial?_slot (name := Str.ofString "__next__") hp.typeIs F.slot_tuple_iterator_next (wpAny_call_entry F.slot_tuple_iterator_next hp.typeIs F.entry_tuple_iterator_next ?_ (F.args_tuple_iterator_next_1 _)))
  show wpAny _ _ (field (.ref ti) 0 >>= _) _ _ s
  refine wpAny_bind (wpAny_field e0 e2 (x := .ref tt) rfl ?_)
  show wpAny _ _ (if (Value.ref tt == Value.none) = true then _ else _) _ _ s
  rw [if_neg (show ¬ ((Value.ref tt == Value.none) = true) from Bool.false_ne_true)]
  show wpAny _ _ (field (.ref ti) 1 >>= _) _ _ s
  refine wpAny_bind (wpAny_field e0 e2 (x := .int k 0) rfl ?_)
  show wpAny _ _ (seqItems? (.ref tt) >>= _) _ _ s
  refine wpAny_bind (wpAny_seqItems c0 c2 ?_)
  simp only [Int.toNat_natCast, hv]
  refine wpAny_bind (wpAny_rule (wpAny_bind (wpAny_setField e0 e2 (by simp) ?_)))
  show wpAny _ _ (newExc (.type "StopIteration") [] >>= _) _ _ _
  refine wpAny_bind ?_
  simp only [newExc, newTuple]
  refine wpAny_bind (wpAny_newObj_type ?_ (by size_fits))
  refine wpAny_bind (m := firstArgMember _ _) (wpAny_of_eq (a := Value.none) (by first | rfl | (simp only [firstArgMember]; done)) ?_)
  refine wpAny_newObj_type ?_ (by size_fits)
  simp only [raiseNew]
  refine wpAny_bind (wpAny_handled ?_)
  first | rw [show A.in1.handled = none from hh] | rw [hh]
  refine wpAny_bind (wpAny_pure (wpAny_throw ?_))
  exact hE _ _ (((Heap.SameBut.update ..).extBut.push _).push _) ⟨_, Heap.get?_push_size _ rfl, rfl⟩

end

/-! its making, and the loop over it -/
section
variable {prog : Program} {w : World} {A : Around} {E : Value → Shared → Prop} {s : Shared}
end
theorem bt_zip : bootBuiltins "zip" = some (.type "zip") := by decide +kernel
section
variable {X : Cx} {es : List Expr} {kk : Nat} {tpos : Pos}
end
end L2

set_option Elab.async false
set_option linter.all false
set_option maxRecDepth 100000
set_option maxHeartbeats 4000000
namespace L2
open PySem PySem.Spec PyProof.Rows PySem.Builtin.Str

section
variable {X : Cx}
end
end L2

set_option Elab.async false
set_option linter.all false
set_option maxRecDepth 100000
set_option maxHeartbeats 4000000
namespace L2
open PySem PySem.Spec PyProof.Rows PySem.Builtin.Str
section
variable {prog : Program} {w : World} {A : Around} {E : Value → Shared → Prop} {s : Shared}
end
section
variable {X : Cx} {pos p2 : Pos}
/-! ### range(a, b, c) that is empty -/
/-! ### the items of a dict of the file's top -/
end
end L2

set_option Elab.async false
set_option linter.all false
set_option maxRecDepth 100000
set_option maxHeartbeats 4000000
namespace L2
open PySem PySem.Spec PyProof.Rows

/-! ### a list comprehension within which others read its names: cells of its own -/
section
variable {M : Model} {A : Around} {E : Value → Shared → Prop} {s : Shared}
end
section
variable {X : Cx}
end
end L2

set_option Elab.async false
set_option linter.all false
set_option maxRecDepth 100000
set_option maxHeartbeats 4000000
namespace L2
open PySem PySem.Spec PyProof.Rows

/-! ### a list comprehension of two clauses, without ifs -/
section
variable {prog : Program} {w : World} {A : Around} {R : Result → Shared → Prop} {s : Shared}
end
section
variable {X : Cx}
end
end L2

set_option Elab.async false
set_option linter.all false
set_option maxRecDepth 100000
set_option maxHeartbeats 4000000
namespace L2
open PySem PySem.Spec PyProof.Rows

/-! ### an exception under way -/
/-- the exception's object -/
def XAt (h : Heap) (e : Addr) (cls : Value) (dx : Option Addr) (tb : Value) : Prop := ∃ oe vs, h.get? e = some oe ∧ oe.cls = cls ∧ oe.dict = dx ∧ oe.data = .fields vs ∧ vs[1]? = some tb
/-- its newest trace entry, with the mark of the frame -/
def TbAt (h : Heap) (T : Addr) (fl : Value) : Prop := ∃ oT ts, h.get? T = some oT ∧ oT.data = .fields ts ∧ ts[3]? = some fl
section
variable {M : Model} {A : Around} {E : Value → Shared → Prop} {s : Shared}
theorem frame_not_rec {h base : Heap} {l : List Env} (hl : h.FunFrames base l) {b : Addr} (hb : b ∈ frs l) {o : Obj} (ho : h.get? b = some o) (vs : Array Value) : o.data ≠ .fields vs := by
  obtain ⟨_, o2, h2, hn⟩ := hl.mem hb
  rw [ho] at h2
  cases h2
  exact hn vs
theorem entry_new {base : Heap} {env : Env} {outer : List Env} {L e : Addr} {oe : Obj} {vs : Array Value} {hd : Value} {hn : Bool} {Q : Unit → Shared → Prop} (hfr : A.frames = some (env :: outer)) (hl : s.heap.FunFrames base (env :: outer)) (hf : env.frame = some L)
    (he : s.heap.get? e = some oe) (hdat : oe.data = .fields vs) (hsz : 1 < vs.size)
    (h : ∀ h' T, (∀ b o, s.heap.get? b = some o → b ∉ frs (env :: outer) → b ≠ e → h'.get? b = some o) → (∀ b o, s.heap.get? b = some o → b ≠ e → ∃ sl, h'.get? b = some { o with slots := sl }) → s.heap.objs.size ≤ T → T ≠ e → XAt h' e oe.cls oe.dict (.ref T) → TbAt h' T (rawInt L) →
      Q () { s with heap := h' }) :
    wpAny M A (frameOf env >>= fun a => entryPlaceOf L hn >>= fun pl => EntryCells.newEntry hd a .none (rawInt L) .none pl >>= fun b => setField (.ref e) 1 b) Q E s := by
  have ne : e ∉ frs (env :: outer) := fun z => frame_not_rec hl z he vs hdat
  refine wpAny_bind (wpAny_frameOf_fun hfr hl hf fun h1 so => wpAny_bind (wpAny_entryPlaceOf fun pl isP => ?_))
  unfold EntryCells.newEntry newFields
  refine wpAny_bind (wpAny_newObj_type ?_ (isP.sizeOk5 _ _ _ _ _))
  generalize hts : ([hd, .ref L, .none, rawInt L, .none] ++ (if pl.isEmpty then List.replicate 6 Value.none else pl)).toArray = ts
  have h3 : ts[3]? = some (rawInt L) := by rw [← hts]; simp
  have ge : h1.get? e = some oe := (so.2.1 e ne).trans he
  have lt : e < h1.objs.size := Heap.lt_size ge
  refine wpAny_setField (Heap.get?_push_of_some _ ge) hdat hsz ?_
  refine h _ h1.objs.size (fun b o hb nb nbe => ?_) (fun b o hb nbe => ?_) (Nat.le_of_eq so.1.symm) (Nat.ne_of_gt lt) ?_ ?_
  · rw [Heap.get?_update_other _ _ (Ne.symm nbe)]
    exact Heap.get?_push_of_some _ ((so.2.1 b nb).trans hb)
  · obtain ⟨sl, q⟩ := so.2.2 b o hb
    exact ⟨sl, by rw [Heap.get?_update_other _ _ (Ne.symm nbe)]; exact Heap.get?_push_of_some _ q⟩
  · have dm := Obj.data_mapFields hdat (·.setIfInBounds 1 (Value.ref h1.objs.size))
    refine ⟨_, _, Heap.get?_update_self _ (Heap.get?_push_of_some _ ge) (Obj.isFreed_of_fields dm), Obj.cls_mapFields _ _, ?_, dm, by simp [hsz]⟩
    obtain ⟨c, d, dt, sl⟩ := oe
    cases dt <;> first | rfl | cases hdat
  · exact ⟨_, ts, by rw [Heap.get?_update_other _ _ (Nat.ne_of_lt lt)]; exact Heap.get?_push_size _ rfl, rfl, h3⟩
end

/-- what may have changed: frames' slots, the records at ch -/
structure Chg (fs ch : List Addr) (h h' : Heap) : Prop where
  keep : ∀ b o, h.get? b = some o → b ∉ fs → b ∉ ch → h'.get? b = some o
  slot : ∀ b o, h.get? b = some o → b ∉ ch → ∃ sl, h'.get? b = some { o with slots := sl }
/-- new since the entry, and nobody's else -/
structure Own (X : Cx) (H : Hp) (b : Addr) : Prop where
  free : H b = none
  new : X.s₀.heap.objs.size ≤ b
  loc : b ≠ X.env.locals
  cel : ∀ x c, X.env.cells.lookup x = some c → c ≠ b
  pin : ∀ p ∈ X.pn, p.1 ≠ b
section
variable {X : Cx} {σ : St} {H : Hp} {s : Shared}
theorem Inv.chg {ch : List Addr} {h' : Heap} (I : Inv X [] σ H s) (c : Chg (frs X.stack) ch s.heap h') (hc : ∀ b ∈ ch, Own X H b) : Inv X [] σ H { s with heap := h' } := by
  refine I.call (g' := s.gens) (t' := s.toks) (d' := s.drawn) (ch := ch) (H' := H) ⟨fun b o e _ nf nc => c.keep b o e nf nc, fun b o e _ _ nc => c.slot b o e nc, fun _ _ _ n _ => n, fun b o e nc => let ⟨sl, q⟩ := c.slot b o e nc; ⟨_, q⟩, fun _ _ e => e, fun _ _ _ e => e, fun b ps e => ⟨#[], by rw [e]; simp⟩⟩ (fun b u e => ?_) I.bare fun b hb => ⟨.inr (hc b hb).new, (hc b hb).loc, (hc b hb).cel, fun p hp => (hc b hb).pin p (by simpa using hp)⟩
  refine (I.hok b u e).stay (fun c' v hh q => c.keep c' v q (fun z => ?_) fun z => ?_) (fun _ q => q) fun _ _ q => q
  · have := I.stkFree c' z
    rcases hh with rfl | hh
    · rw [this] at e; cases e
    · rw [this] at hh; cases hh
  · have := (hc c' z).free
    rcases hh with rfl | hh
    · rw [this] at e; cases e
    · rw [this] at hh; cases hh
theorem Inv.own_new (I : Inv X [] σ H s) {b : Addr} (hb : s.heap.objs.size ≤ b) : Own X H b where
  free := I.hok.fresh hb
  new := Nat.le_trans I.sz hb
  loc := Nat.ne_of_gt (Nat.lt_of_lt_of_le I.lt hb)
  cel := fun x c e z => by
    obtain ⟨v, q⟩ := I.cell x c e
    exact absurd (Nat.lt_of_lt_of_le q.lt (by rw [z]; exact hb)) (Nat.lt_irrefl _)
  pin := fun p hp z => absurd (Nat.lt_of_lt_of_le (Heap.lt_size (I.pin p (by simpa using hp)).1) (by rw [z]; exact hb)) (Nat.lt_irrefl _)
end
abbrev XS := Value → Option Addr → St → Hp → Prop
/-- an exception in this body; mk: it bears this frame's mark (tb: it has a trace) -/
def FlOk (mk : Option Bool) (fl : Value) (L : Addr) : Prop := match mk with
  | none => fl = .none ∨ fl = rawInt L
  | some true => fl = rawInt L
  | some false => fl = .none
theorem FlOk.any {mk : Option Bool} {fl : Value} {L : Addr} (h : FlOk mk fl L) : fl = .none ∨ fl = rawInt L := by
  match mk, h with
  | none, h => exact h
  | some true, h => exact .inr h
  | some false, h => exact .inl h
def XBe (X : Cx) (E : XS) (tb : Bool) (mk : Option Bool) (ev : Value) (s : Shared) : Prop := ∃ e cls dx σ H, ev = .ref e ∧ Inv X [] σ H s ∧ Own X H e ∧
  ((tb = false ∧ XAt s.heap e cls dx .none) ∨ ∃ T fl, XAt s.heap e cls dx (.ref T) ∧ Own X H T ∧ T ≠ e ∧ TbAt s.heap T fl ∧ FlOk mk fl X.env.locals) ∧ E cls dx σ H
abbrev XIn (X : Cx) (E : XS) : Value → Shared → Prop := XBe X E false none
theorem XBe.weak {X : Cx} {E : XS} {tb : Bool} {mk : Option Bool} {ev : Value} {s : Shared} (h : XBe X E tb mk ev s) : XIn X E ev s := by
  obtain ⟨e, cls, dx, σ, H, h1, h2, h3, h4, h5⟩ := h
  refine ⟨e, cls, dx, σ, H, h1, h2, h3, ?_, h5⟩
  rcases h4 with ⟨_, h4⟩ | ⟨T, fl, a, b, c, d, f⟩
  · exact .inl ⟨rfl, h4⟩
  · exact .inr ⟨T, fl, a, b, c, d, f.any⟩
section
variable {X : Cx} {E : XS} {M : Model} {A : Around} {F : Value → Shared → Prop} {s : Shared} {ev : Value} {tb : Bool} {mk : Option Bool}
theorem x_note {Q : Unit → Shared → Prop} (hA : A.frames = some X.stack) (hst : X.stack = X.env :: X.outer) (hf : X.env.frame = some X.env.locals) (h : XBe X E tb mk ev s) (hQ : ∀ s', XBe X E true (some true) ev s' → Q () s') : wpAny M A (noteFrame ev X.env) Q F s := by
  obtain ⟨e, cls, dx, σ, H, rfl, I, oe, ht, hE⟩ := h
  have fin : ∀ {s1 : Shared} {hd : Value} {ob : Obj} {vs : Array Value}, Inv X [] σ H s1 → s1.heap.get? e = some ob → ob.cls = cls → ob.dict = dx → ob.data = .fields vs → 1 < vs.size →
      wpAny M A (frameOf X.env >>= fun a => entryPlaceOf X.env.locals (hd != .none) >>= fun pl => EntryCells.newEntry hd a .none (rawInt X.env.locals) .none pl >>= fun b => setField (.ref e) 1 b) Q F s1 := by
    intro s1 hd ob vs I1 ge hcls hdx hdat hsz
    have fr := I1.stack
    rw [hst] at fr
    refine entry_new (hA.trans (by rw [hst])) fr hf ge hdat hsz fun h' T k1 k2 hT ne xa ta => ?_
    rw [hcls, hdx] at xa
    have J := I1.chg (ch := [e]) (h' := h') ⟨fun b o q nf nc => k1 b o q (by rw [← hst]; exact nf) (by simpa using nc), fun b o q nc => k2 b o q (by simpa using nc)⟩ fun b hb => by
      have : b = e := by simpa using hb
      subst this; exact oe
    exact hQ _ ⟨e, cls, dx, σ, H, rfl, J, oe, .inr ⟨T, _, xa, I1.own_new hT, ne, ta, rfl⟩, hE⟩
  unfold noteFrame
  simp only [hf]
  rcases ht with ⟨_, ob, vs, ge, hcls, hdx, hdat, h1⟩ | ⟨T, fl, ⟨ob, vs, ge, hcls, hdx, hdat, h1⟩, oT, ne, ⟨ot, ts, gT, dT, h3⟩, hfl⟩
  · refine wpAny_bind (wpAny_field ge hdat h1 ?_)
    rw [if_neg (by decide)]
    exact fin I ge hcls hdx hdat (Array.getElem?_eq_some_iff.mp h1).1
  · refine wpAny_bind (wpAny_field ge hdat h1 ?_)
    rw [if_pos (show (Value.ref T != Value.none) = true by simp)]
    refine wpAny_bind (wpAny_field gT dT h3 ?_)
    rcases hfl.any with rfl | rfl
    · rw [if_neg (show ¬ ((Value.none == rawInt X.env.locals) = true) by simp [rawInt])]
      refine wpAny_bind (wpAny_setField gT dT (Array.getElem?_eq_some_iff.mp h3).1 ?_)
      have J := I.chg (ch := [T]) (h' := s.heap.update T (Obj.mapFields (·.setIfInBounds 3 Value.none))) ⟨fun b o q _ nc => (Heap.get?_update_other _ _ (fun z => nc (by simp [z]))).trans q, fun b o q nc => ⟨o.slots, (Heap.get?_update_other _ _ (fun z => nc (by simp [z]))).trans q⟩⟩ fun b hb => by
        have : b = T := by simpa using hb
        subst this; exact oT
      exact fin J ((Heap.get?_update_other _ _ ne).trans ge) hcls hdx hdat (Array.getElem?_eq_some_iff.mp h1).1
    · rw [if_pos (show (rawInt X.env.locals == rawInt X.env.locals) = true by first | exact beq_self_eq_true _ | simp)]
      exact wpAny_pure (hQ s ⟨e, cls, dx, σ, H, rfl, I, oe, .inr ⟨T, _, ⟨ob, vs, ge, hcls, hdx, hdat, h1⟩, oT, ne, ⟨ot, ts, gT, dT, h3⟩, rfl⟩, hE⟩)
/-- the mark is set or taken away -/
theorem x_flight {Q : Unit → Shared → Prop} {fr : Option Addr} (hfr : fr = none ∨ fr = some X.env.locals) (h : XBe X E true mk ev s) (hQ : ∀ s', XBe X E true (some fr.isSome) ev s' → Q () s') : wpAny M A (setFlight ev fr) Q F s := by
  obtain ⟨e, cls, dx, σ, H, rfl, I, oe, ht, hE⟩ := h
  rcases ht with ⟨z, _⟩ | ⟨T, fl, ⟨ob, vs, ge, hcls, hdx, hdat, h1⟩, oT, ne, ⟨ot, ts, gT, dT, h3⟩, hfl⟩
  · cases z
  · have h3s := (Array.getElem?_eq_some_iff.mp h3).1
    unfold setFlight
    refine wpAny_bind (wpAny_field ge hdat h1 ?_)
    rw [if_pos (show (Value.ref T != Value.none) = true by simp)]
    refine wpAny_setField gT dT h3s (hQ _ ?_)
    generalize hx : (fr.elim Value.none fun f => rawInt f) = x
    have J := I.chg (ch := [T]) (h' := s.heap.update T (Obj.mapFields (·.setIfInBounds 3 x))) ⟨fun b o q _ nc => (Heap.get?_update_other _ _ (fun z => nc (by simp [z]))).trans q, fun b o q nc => ⟨o.slots, (Heap.get?_update_other _ _ (fun z => nc (by simp [z]))).trans q⟩⟩ fun b hb => by
      have : b = T := by simpa using hb
      subst this; exact oT
    have dm := Obj.data_mapFields dT (·.setIfInBounds 3 x)
    refine ⟨e, cls, dx, σ, H, rfl, J, oe, .inr ⟨T, x, ⟨ob, vs, (Heap.get?_update_other _ _ ne).trans ge, hcls, hdx, hdat, h1⟩, oT, ne, ⟨_, _, Heap.get?_update_self _ gT (Obj.isFreed_of_fields dm), dm, by simp [h3s]⟩, ?_⟩, hE⟩
    rcases hfr with rfl | rfl
    · exact hx.symm
    · exact hx.symm
theorem x_back {Q : Unit → Shared → Prop} (hf : X.env.frame = some X.env.locals) (h : XBe X E true mk ev s) (hQ : ∀ s', XIn X E ev s' → Q () s') :
    wpAny M A (do if (← field ev 1) == .none then unsupported "frame.own-activation:exception-without-traceback"
                  setFlight ev X.env.frame) Q F s := by
  obtain ⟨e, cls, dx, σ, H, rfl, I, oe, ht, hE⟩ := id h
  rcases ht with ⟨z, _⟩ | ⟨T, fl, ⟨ob, vs, ge, hcls, hdx, hdat, h1⟩, r⟩
  · cases z
  · refine wpAny_bind (wpAny_field ge hdat h1 ?_)
    rw [if_neg (show ¬ ((Value.ref T == Value.none) = true) by simp)]
    first
      | exact x_flight (fr := X.env.frame) (.inr hf) h fun s' q => hQ s' q.weak
      | exact wpAny_bind (wpAny_pure (x_flight (fr := X.env.frame) (.inr hf) h fun s' q => hQ s' q.weak))
/-- own loops let it through -/
theorem XBe.frames (h : XBe X E tb mk ev s) : X.A.frames = some X.stack := by
  obtain ⟨_, _, _, _, _, _, I, _⟩ := h
  exact I.ok.frames
theorem x_passes (hst : X.stack = X.env :: X.outer) (hf : X.env.frame = some X.env.locals) : PassesOwn M X.A X.env (XIn X E) := fun ev s h =>
  x_note h.frames hst hf h fun s' q => x_back hf q fun s'' z => z
end

/-! ### an exception behind a call -/
def CXF (P : Program) (w : World) : CXT := fun l H s E ev s' => ∃ e cls dx H' T, ev = .ref e ∧ s'.os = s.os ∧ AllBare s'.gens ∧ Un (frs l) [] H H' s.heap s'.heap ∧ HOk P w H' s'.heap ∧ H' e = none ∧ s.heap.objs.size ≤ e ∧
  XAt s'.heap e cls dx (.ref T) ∧ T ≠ e ∧ H' T = none ∧ s.heap.objs.size ≤ T ∧ TbAt s'.heap T .none ∧ E cls dx H'
section
variable {X : Cx} {E : XS}
theorem x_leave {EK : XK} {M : Model} {A : Around} {F : Value → Shared → Prop} {s : Shared} {ev : Value} {tb : Bool} {mk : Option Bool} (hA : A.frames = some X.stack) (hst : X.stack = X.env :: X.outer) (hf : X.env.frame = some X.env.locals) (hex : X.ex = [])
    (h : XBe X (fun cls dx _ H => EK cls dx H) tb mk ev s) : wpAny M A (leaving X.env ev) (fun _ s'' => CXF X.prog X.w X.outer X.H₀ X.s₀ EK ev s'') F s := by
  unfold leaving
  refine wpAny_bind (x_note hA hst hf h fun s1 q => x_flight (.inl rfl) q fun s2 q2 => ?_)
  obtain ⟨e, cls, dx, σ, H, rfl, I, oe, ht, hE⟩ := q2
  rcases ht with ⟨z, _⟩ | ⟨T, fl, xa, oT, ne, ta, hfl⟩
  · cases z
  · have e1 : fl = .none := hfl
    subst e1
    have b := I.base
    rw [hex] at b
    exact ⟨e, cls, dx, H, T, rfl, I.os, I.bare, b, I.hok, oe.free, oe.new, xa, ne, oT.free, oT.new, ta, hE⟩
/-- it comes out of a call -/
theorem x_come {EK : XK} {pins : List (Addr × Obj)} {σ : St} {H : Hp} {s s' : Shared} {ev : Value} (I : Inv X pins σ H s) (h : CXF X.prog X.w X.stack H s EK ev s') (hE : ∀ cls dx H', EK cls dx H' → E cls dx σ H') : XIn X E ev s' := by
  obtain ⟨e, cls, dx, H', T, rfl, os, ba, un, hok, he, le, xa, ne, hT, lT, ta, q⟩ := h
  have J := I.call' os un hok ba (fun b z => absurd z (by simp))
  have J0 : Inv X [] σ H' s' := J.pins_of fun p hp => absurd hp (by simp)
  have own : ∀ b, H' b = none → s.heap.objs.size ≤ b → Own X H' b := fun b hb lb => ⟨hb, Nat.le_trans I.sz lb, Nat.ne_of_gt (Nat.lt_of_lt_of_le I.lt lb), fun x c e z => by
    obtain ⟨v, q⟩ := I.cell x c e
    exact absurd (Nat.lt_of_lt_of_le q.lt (by rw [z]; exact lb)) (Nat.lt_irrefl _), fun p hp z => absurd (Nat.lt_of_lt_of_le (Heap.lt_size (I.pin p (List.mem_append_left _ hp)).1) (by rw [z]; exact lb)) (Nat.lt_irrefl _)⟩
  exact ⟨e, cls, dx, σ, H', rfl, J0, own e he le, .inr ⟨T, .none, xa, own T hT lT, ne, ta, .inl rfl⟩, hE _ _ _ q⟩
end
/-- the body's context where exceptions are wanted as E -/
abbrev Cx.raises (X : Cx) (E : XS) : Cx := X.wish (XIn X E)
theorem PSs.wish {X : Cx} {f : Value → Shared → Prop} {st : List Stmt} {t : TS} (h : PSs (X.wish f) st t) (hf : ∀ e s, f e s → X.xe e s) : PSs X st t := fun pins s σ H D I hw =>
  wpAny_mono (h pins s σ H D (I.wish _) hw) (fun _ _ q => q.unwish) hf
section
variable {X : Cx} {E : XS} {k : Nat} {sp : Sp} {x : Str} {p pos : Pos} {e : Expr} {es : List Expr} {t : TA}
/-- f(..) of a def that may raise -/
def tCallX (sp : Sp) (E : XS) (t : TA) : TE := fun σ H Q => t σ H fun vs H1 => sp vs H1 Q fun cls dx H' => E cls dx σ H'
theorem pe_defX (G : Def X.prog X.w X.K X.mg X.base (CXF X.prog X.w) k x sp) (hr : Room k X.A) (ha : PA (X.raises E) (e :: es) t) (hg : Gl (X.raises E) x := by rfl) (hdb : (x == ("__debug__" : Str)) = false := by decide)
    (he : starEach (e :: es) X.env = (false, eval e X.env) :: starEach es X.env := by rfl) (hpl : (backTo pos (starEach es X.env)).any (·.1) = false := by rfl) :
    PE (X.raises E) (.Call (.Name x p) (e :: es) [] pos) (tCallX sp E t) := by
  obtain ⟨f, fd, ps, F, b, c, d⟩ := G.ex
  intro pins s σ H Q I h
  refine wpAny_Call_Name_kw (ld_glob I hg c (PySem.W.callWith_K (h₀ := X.base) I.ok.mod.kin d
    (thn (ha pos pins s σ H _ I h) fun us s1 ⟨vs, H1, I1, r, q⟩ => ⟨I1.kIn, ?_⟩) he hpl) hdb)
  have hl : us.length = ps.length := by rw [← r.length]; exact F.len _ _ _ _ q
  have bd := b s1 us I1.kIn (by simpa using hl)
  rw [List.append_nil] at bd
  refine wpAny_call (codeAny_mono (F.run X.A X.stack s1 H1 ⟨us, []⟩ us vs Q (fun cls dx H' => E cls dx σ H') hr I1.unwish.env0 bd r q) fun r s' hq => ?_)
  cases r with
  | error ev => exact x_come I1.unwish hq fun _ _ _ z => z
  | ok fl =>
    cases fl with
    | ret u => exact (I1.after hq : EP (X.raises E) pins σ Q u s')
    | _ => exact False.elim hq
end
section
variable {P : Program} {w : World} {K : PySem.W.Frag} {mg : Str → Option Value} {base : Heap}
/-- a def that may raise: its body in a context that wants exceptions as E -/
theorem Fun.okX {x qual : Str} {st : Stmt} {f : Addr} {fd : FuncData} {N ps : List Str} {k : Nat} {sp : Sp} (F : Fun K x qual st f fd) (S : FnScope N ps (defScope st)) (len : ∀ vs H Q E, sp vs H Q E → vs.length = ps.length)
    (hbody : ∀ (cdv : Value) (A : Around) (outer : List Env) (s : Shared) (H : Hp) (vs : List V) (Q : VK) (E : XK), Room k (A.deeper (envOfC qual (defScope st) s.heap.objs.size f cdv)) → sp vs H Q E →
      ∃ t, PSs ((cxOf (CXF P w) P w K mg base N qual (defScope st) f cdv A outer s H E).raises fun cls dx _ H' => E cls dx H') (defBody st) t ∧ t { nx := fun _ H' => Q .non H', rt := Q } (start N vs) H) : FnOk P w K mg base (CXF P w) (k + 1) f fd ps sp := by
  obtain ⟨oc, od, kV, doc, pm, an, cdv, ct, osl, rfl, lk, hcd⟩ := F.ex
  refine fn_of lk hcd S len fun A outer s H vs Q E hr hsp => ?_
  obtain ⟨t, ht, q⟩ := hbody cdv A outer s H vs Q E hr hsp
  exact ⟨t, ht.wish fun ev s' z => x_leave z.frames rfl rfl rfl z, q⟩
end

/-! ### try: .. except C as n: .. -/
section
variable {X : Cx} {pins : List (Addr × Obj)} {σ : St} {H : Hp} {s : Shared}
abbrev Cx.pinTo (X : Cx) (ps : List (Addr × Obj)) : Cx := { X with pn := X.pn ++ ps }
abbrev Cx.suite (X : Cx) (ev : Value) (ps : List (Addr × Obj)) : Cx := { X with pn := X.pn ++ ps, A := X.A.mark (some ev), calm := false, xe := fun _ _ => False }
theorem Inv.pinTo (I : Inv X pins σ H s) : Inv (X.pinTo pins) [] σ H s := by
  obtain ⟨ok, a1, a2, a3, a4, a5, a6, a7, a8, a9, a10⟩ := I
  exact ⟨⟨ok.mod, ok.kind, ok.glob, ok.blt, ok.above, ok.inj, ok.has, ok.cab, ok.hd, ok.frames, ok.stk, ok.exf, ok.bs, ok.bsz, ok.noex, ok.exfs, ok.funs, ok.frf⟩, a1, a2, a3, a4, a5, a6, a7, fun p hp => a8 p (by simpa using hp), a9, a10⟩
theorem Inv.unpinTo (I : Inv (X.pinTo pins) [] σ H s) : Inv X pins σ H s := by
  obtain ⟨ok, a1, a2, a3, a4, a5, a6, a7, a8, a9, a10⟩ := I
  exact ⟨⟨ok.mod, ok.kind, ok.glob, ok.blt, ok.above, ok.inj, ok.has, ok.cab, ok.hd, ok.frames, ok.stk, ok.exf, ok.bs, ok.bsz, ok.noex, ok.exfs, ok.funs, ok.frf⟩, a1, a2, a3, a4, a5, a6, a7, fun p hp => a8 p (by simpa using hp), a9, a10⟩
theorem Inv.insuite {ev : Value} {ps : List (Addr × Obj)} (I : Inv (X.pinTo pins) ps σ H s) : Inv (X.suite ev pins) ps σ H s := by
  obtain ⟨ok, a1, a2, a3, a4, a5, a6, a7, a8, a9, a10⟩ := I
  exact ⟨⟨ok.mod, ok.kind, ok.glob, ok.blt, ok.above, ok.inj, ok.has, ok.cab, (fun z => by cases z), ok.frames, ok.stk, ok.exf, ok.bs, ok.bsz, ok.noex, ok.exfs, ok.funs, ok.frf⟩, a1, a2, a3, a4, a5, a6, a7, a8, a9, a10⟩
theorem Inv.outsuite {ev : Value} {ps : List (Addr × Obj)} (I : Inv (X.suite ev pins) ps σ H s) (h0 : X.Ok) : Inv (X.pinTo pins) ps σ H s := by
  obtain ⟨ok, a1, a2, a3, a4, a5, a6, a7, a8, a9, a10⟩ := I
  exact ⟨⟨ok.mod, ok.kind, ok.glob, ok.blt, ok.above, ok.inj, ok.has, ok.cab, h0.hd, ok.frames, ok.stk, ok.exf, ok.bs, ok.bsz, ok.noex, ok.exfs, ok.funs, ok.frf⟩, a1, a2, a3, a4, a5, a6, a7, a8, a9, a10⟩
/-- a thing of ours is told to the abstract heap -/
theorem Inv.track {e : Addr} {o : HO} (I : Inv X [] σ H s) (oe : Own X H e) (new : ObjOk X.prog X.w (upd H e o) s.heap e o) : Inv X [] σ (upd H e o) s := by
  have st : Inv X [] σ (upd H e o) { s with heap := s.heap, gens := s.gens, drawn := s.drawn, toks := s.toks } := by
    refine I.step (ch := [e]) (fun b hb => ?_) (fun b o' _ _ _ q _ => q) (fun b o' _ _ _ q _ => ⟨o'.slots, q⟩) (fun b o' hb _ n => ?_) (fun b o' _ q => ⟨o', q⟩) (fun b xs q => ?_) (fun b ob u q => ?_) (fun b ps q => ⟨#[], ?_⟩) (fun m q => q) (fun b u q => ?_) I.bare
    · have : b = e := by simpa using hb
      subst this
      exact ⟨.inr oe.new, oe.loc, oe.cel, fun p hp => oe.pin p (by simpa using hp)⟩
    · rw [upd_ne (fun z => hb (by simp [z]))]; exact n
    · rw [upd_ne (ne_of_none q oe.free)]; exact q
    · rw [upd_ne (ne_of_none q oe.free)]; exact q
    · rw [upd_ne (ne_of_none q oe.free), q]; simp
    · by_cases hb : b = e
      · subst hb
        rw [upd_same] at q
        cases q
        exact new
      · rw [upd_ne hb] at q
        exact (I.hok b u q).stay (fun _ _ _ r => r) (fun c r => by rw [upd_ne (ne_of_none r oe.free)]; exact r) fun c xs r => by rw [upd_ne (ne_of_none r oe.free)]; exact r
  exact st
end
end L2

set_option Elab.async false
set_option linter.all false
set_option maxRecDepth 100000
set_option maxHeartbeats 4000000
namespace L2
open PySem PySem.Spec PyProof.Rows
/-- an exception's object, as it is known; fr: nobody has raised it -/
def xO (fr : Bool) (cls : Value) (dx : Option Addr) (e : Addr) : HO := .ext fun h => ∃ oe vs, h.get? e = some oe ∧ oe.cls = cls ∧ oe.dict = dx ∧ oe.data = .fields vs ∧ (fr = true → ∃ a0, vs = #[a0, .none, .none, .none, .bool false, .none])
theorem xO_ok {P : Program} {w : World} {H : Hp} {h : Heap} {fr : Bool} {cls : Value} {dx : Option Addr} {e : Addr} {oe : Obj} {vs : Array Value} (h1 : h.get? e = some oe) (h2 : oe.cls = cls) (h3 : oe.dict = dx) (h4 : oe.data = .fields vs)
    (h5 : fr = true → ∃ a0, vs = #[a0, .none, .none, .none, .bool false, .none]) : ObjOk P w H h e (xO fr cls dx e) := ⟨⟨oe, vs, h1, h2, h3, h4, h5⟩, ⟨oe, h1⟩, fun _ _ ⟨o, vs, y1, y2⟩ k => ⟨o, vs, k o y1, y2⟩⟩
/-- an own class of exceptions at C; bm: its mro behind itself -/
def XCls (K : PySem.W.Frag) (C : Addr) (bm : List Value) : Prop := bm.contains (.type "BaseException") = true ∧ ∃ nm q N bs hdct sn sub ab col dd k0 k1 k2 k3 k5 newId, K.lookup C = some (excClassObj nm q C N bs bm hdct sn sub ab col dd k0 k1 k2 k3 k5 newId)
section
variable {X : Cx} {pins : List (Addr × Obj)} {σ : St} {H : Hp} {s : Shared}
theorem name_goes {M : Model} {A : Around} {E : Value → Shared → Prop} {i : Nat} {n : Str} {pos : Pos} {Q : Unit → Shared → Prop} (I : Inv X pins σ H s) (hN : X.N.Nodup) (hi : X.N[i]? = some n) (hk : X.env.scope.names.lookup n = some .local)
    (h : ∀ s', Inv X pins (σ.set i none) H s' → Q () s') : wpAny M A (do bindName X.env n .none; unbindBehindTheSuite X.env n pos) Q E s := by
  obtain ⟨m, hn, hl⟩ := id I.loc
  have hc : (X.env.scope.kind == .class || (X.env.scope.kind == .module && X.env.locals != X.env.globals)) = false := by rw [I.ok.kind]; rfl
  have old : ∀ b o, X.s₀.heap.get? b = some o → b ≠ X.env.locals := fun b o q z => by
    have := Nat.lt_of_lt_of_le (Heap.lt_size q) I.ok.above
    rw [z] at this
    exact Nat.lt_irrefl _ this
  have hiσ : i < σ.length := by rw [I.len]; exact (List.getElem?_eq_some_iff.mp hi).1
  refine wpAny_nameGoes_keeps hk hn hc fun h' v hn' hs => h _ ?_
  refine ⟨I.ok, I.os, I.bare, ⟨fun b o q n1 n2 n3 => ?_, fun b o q n1 n2 n3 => ?_, I.base.free, fun b o q n3 => ?_, I.base.tups, I.base.frzs, I.base.tbls⟩, ⟨_, hn', fun j y v' e1 e2 e3 => ?_⟩, fun y c q => ?_, I.free, I.freeC, fun p hp => ?_, fun b ob q => ?_, by simpa using I.len⟩
  · rw [← I.base.keep b o q n1 n2 n3]; exact hs.2 b (old b o q)
  · obtain ⟨sl, q1⟩ := I.base.slot b o q n1 n2 n3
    exact ⟨sl, by rw [← q1]; exact hs.2 b (old b o q)⟩
  · obtain ⟨o', q1⟩ := I.base.there b o q n3
    exact ⟨o', by rw [← q1]; exact hs.2 b (old b o q)⟩
  · by_cases hj : j = i
    · subst hj
      rw [List.getElem?_set_self hiσ] at e2
      cases e2
    · rw [List.getElem?_set_ne (Ne.symm hj)] at e2
      obtain ⟨u, r, q⟩ := hl j y v' e1 e2 e3
      have hy : y ≠ n := fun z => hj (nodup_ix hN e1 (z ▸ hi))
      refine ⟨u, r, ?_⟩
      rcases q with ⟨k, q⟩ | ⟨k, c, q, z⟩
      · exact .inl ⟨k, by simp only [hy, if_false]; exact q⟩
      · exact .inr ⟨k, c, q, z.sameBut hs (I.cne y c q)⟩
  · obtain ⟨w', z⟩ := I.cell y c q
    exact ⟨w', z.sameBut hs (I.cne y c q)⟩
  · obtain ⟨q, n1, n2, n3, d⟩ := I.pin p hp
    exact ⟨(hs.2 p.1 n2).trans q, n1, n2, n3, d⟩
  · refine (I.hok b ob q).stay (fun c w' hh r => (hs.2 c ?_).trans r) (fun _ r => r) fun _ _ r => r
    rintro rfl
    rcases hh with rfl | hh
    · rw [I.free] at q; cases q
    · rw [I.free] at hh; cases hh
end
section
variable {M : Model} {A : Around} {E : Value → Shared → Prop}
theorem exc_matches {h : Heap} {g : Array GenState} {d : Drawn} {t : Nat} {os : OsState} {e C W : Addr} {oe : Obj} {bm bw : List Value} {Q : Bool → Shared → Prop} {nm q nm' q' : Str} {N N' : Addr} {bs bs' : List Value} {hdct hdct' : Bool} {sn sn' : List Str} {sub sub' : List Value} {ab ab' : Bool} {col col' : Option Bool} {dd dd' : Option Addr} {k0 k1 k2 k3 k5 l0 l1 l2 l3 l5 : Option Value} {newId newId' : String}
    (hC : h.get? C = some (excClassObj nm q C N bs bm hdct sn sub ab col dd k0 k1 k2 k3 k5 newId)) (hW : h.get? W = some (excClassObj nm' q' W N' bs' bw hdct' sn' sub' ab' col' dd' l0 l1 l2 l3 l5 newId'))
    (he : h.get? e = some oe) (hcls : oe.cls = .ref C) (hb : bw.contains (.type "BaseException") = true) (hm : (Value.ref C :: bm).contains (.ref W) = true) (hq : Q true ⟨h, g, d, t, os⟩) : wpAny M A (excMatches (.ref e) (.ref W)) Q E ⟨h, g, d, t, os⟩ := by
  have hwB : (Value.ref W :: bw).contains (.type "BaseException") = true := by rw [List.contains_cons, hb, Bool.or_true]
  have nt := tc_notTuple
  unfold excMatches
  repeat (first | (with_reducible refine wpAny_loadPart_at he ?_; rw [hcls]) | with_reducible refine wpAny_loadPart_at hW ?_
                | (with_reducible refine wpAny_isSubtype_exc hW ?_; rw [hwB]) | (with_reducible refine wpAny_isSubtype_exc hC ?_; rw [hm]) | wp_step)
  exact hq
end

/-! ### try -/
/-- what is wanted of an exception of a try's body: C is among its class's, and the suite goes on -/
def tEx (K : PySem.W.Frag) (C : Addr) (i : Nat) (ts : TS) (D : Ends) : XS := fun cls dx σ H => (∃ Ce bm, cls = .ref Ce ∧ XCls K Ce bm ∧ (Value.ref Ce :: bm).contains (.ref C) = true) ∧
  ∀ e, H e = none → ts { nx := fun σ' H' => D.nx (σ'.set i none) H', rt := D.rt, bk := fun σ' H' => D.bk (σ'.set i none) H', ct := fun σ' H' => D.ct (σ'.set i none) H' } (σ.set i (some (.ref e))) (upd H e (xO false cls dx e))
def tTry (K : PySem.W.Frag) (C : Addr) (i : Nat) (tb : XS → TS) (ts : TS) : TS := fun D σ H => tb (tEx K C i ts D) D σ H
section
variable {X : Cx} {i : Nat} {n x : Str} {C : Addr} {bw : List Value} {body suite : List Stmt} {b0 : Stmt} {np hp pos : Pos} {tb : XS → TS} {ts : TS}
theorem SP.unpin {E : XS} {pins : List (Addr × Obj)} {D : Ends} {f : Flow} {s : Shared} (h : SP ((X.pinTo pins).raises E) [] D f s) : SP X pins D f s := by
  match f, h with
  | .next, ⟨σ, H, I, q⟩ => exact ⟨σ, H, I.unwish.unpinTo, q⟩
  | .brk, ⟨σ, H, I, q⟩ => exact ⟨σ, H, I.unwish.unpinTo, q⟩
  | .cont, ⟨σ, H, I, q⟩ => exact ⟨σ, H, I.unwish.unpinTo, q⟩
  | .ret u, ⟨v, σ, H, I, r, q⟩ => exact ⟨v, σ, H, I.unwish.unpinTo, r, q⟩
theorem ps_try (hN : X.N.Nodup) (hi : X.N[i]? = some n) (hk : X.env.scope.names.lookup n = some .local) (hg : Gl X x) (hm : X.mg x = some (.ref C)) (hC : XCls X.K C bw) (hst : X.stack = X.env :: X.outer) (hf : X.env.frame = some X.env.locals)
    (hb : ∀ EX pins, PSs ((X.pinTo pins).raises EX) body (tb EX)) (hs : ∀ e pins, PSs (X.suite (.ref e) pins) (b0 :: suite) ts) (hd : (x == ("__debug__" : Str)) = false := by decide) :
    PS X (.Try body [.ExceptHandler (some (.Name x np)) (some n) (b0 :: suite) hp] [] [] pos) (tTry X.K C i tb ts) := by
  intro pins s σ H D I h
  have ok := I.ok
  refine wpAny_Try_except (wpAny_mono (hb (tEx X.K C i ts D) pins [] s σ H D (I.pinTo.wish _) h) (fun f s1 q => ?_) fun ev s1 q => ?_)
  · have q' := SP.unpin q
    cases f with
    | next =>
      show wpAny _ _ (execs [] _) _ _ _
      exact (wpAny_execs_nil q' : _)
    | _ => exact q'
  · have q0 : XIn (X.pinTo pins) (tEx X.K C i ts D) ev s1 := q
    refine x_note (X := X.pinTo pins) q0.frames hst hf q0 fun s2 q2 => x_flight (X := X.pinTo pins) (.inl rfl) q2 fun s3 q3 => ?_
    obtain ⟨e, cls, dx, σ1, H1, rfl, I1, oe, ht, hE⟩ := id q3
    obtain ⟨⟨Ce, bm, rfl, hCe, hmro⟩, hgo⟩ := hE
    obtain ⟨hbB, nm', q', N', bs', hdct', sn', sub', ab', col', dd', l0, l1, l2, l3, l5, newId', lkW⟩ := hC
    obtain ⟨hbC, nm, qn, N, bs, hdct, sn, sub, ab, col, dd, k0, k1, k2, k3, k5, newId, lkC⟩ := hCe
    have ge : ∃ oe, s3.heap.get? e = some oe ∧ oe.cls = .ref Ce := by
      rcases ht with ⟨_, ob, vs, g1, g2, _⟩ | ⟨T, fl, ⟨ob, vs, g1, g2, _⟩, _⟩
      · exact ⟨ob, g1, g2⟩
      · exact ⟨ob, g1, g2⟩
    obtain ⟨ob, ge, gc⟩ := ge
    have gW := I1.kIn C _ lkW
    have gC := I1.kIn Ce _ lkC
    refine wpAny_handleBy_cons (codeAny_handlers_test (ld_glob (X := X.suite (.ref e) pins) (I1.insuite (X := X) (ev := .ref e)) hg hm ?_ hd)) (by intro z; cases z)
    obtain ⟨h3, g3, d3, t3, os3⟩ := s3
    refine exc_matches gC gW ge gc hbB hmro ?_
    refine codeAny_handlers_suite_as (x_flight (X := X.pinTo pins) (.inl rfl) q3 fun s4 q4 => ?_)
    obtain ⟨e', cls4, dx4, σ4, H4, ee, I4, oe4, ht4, hE4⟩ := q4
    cases ee
    obtain ⟨_, hgo4⟩ := hE4
    have xa : ∃ oe vs, s4.heap.get? e = some oe ∧ oe.cls = cls4 ∧ oe.dict = dx4 ∧ oe.data = .fields vs := by
      rcases ht4 with ⟨_, ob, vs, g1, g2, g3, g4, _⟩ | ⟨T, fl, ⟨ob, vs, g1, g2, g3, g4, _⟩, _⟩
      · exact ⟨ob, vs, g1, g2, g3, g4⟩
      · exact ⟨ob, vs, g1, g2, g3, g4⟩
    obtain ⟨oe5, vs5, x1, x2, x3, x4⟩ := xa
    have J := I4.track oe4 (o := xO false cls4 dx4 e) (xO_ok x1 x2 x3 x4 fun z => by cases z)
    refine store_ok (X := X.pinTo pins) J hN hi (.inl hk) (show RelV (.ref e) (.ref e) from rfl) (fun s5 J5 => ?_) (.inr hk)
    refine wpAny_mono (hs e pins [] s5 _ _ _ (J5.insuite (X := X) (ev := .ref e)) (hgo4 e oe4.free)) (fun f s6 q6 => ?_) fun _ _ z => z.elim
    have goes : ∀ {σ6 : St} {H6 : Hp} {R : Unit → Shared → Prop}, Inv (X.suite (.ref e) pins) [] σ6 H6 s6 → (∀ s7, Inv X pins (σ6.set i none) H6 s7 → R () s7) → wpAny (model X.prog X.w) X.A (do bindName X.env n .none; unbindBehindTheSuite X.env n hp) R X.xe s6 := fun I6 hR =>
      name_goes (X := X.pinTo pins) (I6.outsuite ok) hN hi hk fun s7 I7 => hR s7 I7.unpinTo
    match f, q6 with
    | .next, ⟨σ6, H6, I6, z⟩ => exact goes I6 fun s7 I7 => ⟨_, H6, I7, z⟩
    | .brk, ⟨σ6, H6, I6, z⟩ => exact goes I6 fun s7 I7 => ⟨_, H6, I7, z⟩
    | .cont, ⟨σ6, H6, I6, z⟩ => exact goes I6 fun s7 I7 => ⟨_, H6, I7, z⟩
    | .ret u, ⟨v, σ6, H6, I6, r, z⟩ => exact goes I6 fun s7 I7 => ⟨v, _, H6, I7, r, z⟩
end
end L2

set_option Elab.async false
set_option linter.all false
set_option maxRecDepth 100000
set_option maxHeartbeats 4000000
namespace L2
open PySem PySem.Spec PyProof.Rows

/-! ### own classes of exceptions, all above ValueError -/
abbrev vMro : List Value := [.type "ValueError", .type "Exception", .type "BaseException", .type "object"]
theorem tail_has {K : PySem.W.Frag} {bB : List Value} {v : Value} (hv : bB.contains v = true) : ∀ {l : List Value}, PySem.W.tailIn K bB l = true → l.contains v = true
  | [], e => by
    have z : bB = [] := beq_iff_eq.mp e
    rw [z] at hv
    exact hv
  | u :: r, e => by
    unfold PySem.W.tailIn at e
    rcases Bool.or_eq_true_iff.mp e with q | q
    · rw [beq_iff_eq.mp q]; exact hv
    · split at q
      · split at q
        · simp only [Bool.and_eq_true] at q
          rw [List.contains_cons, tail_has hv q.2, Bool.or_true]
        · cases q
      · cases q
theorem tail_lets {K : PySem.W.Frag} (self : Value) : ∀ {l : List Value}, PySem.W.tailIn K vMro l = true → refuseLoop self "__setattr__" l = pure ()
  | [], e => by cases beq_iff_eq.mp e
  | u :: r, e => by
    unfold PySem.W.tailIn at e
    rcases Bool.or_eq_true_iff.mp e with q | q
    · rw [beq_iff_eq.mp q]; exact PySem.F.store_ValueError.passes self
    · split at q
      · split at q
        · simp only [Bool.and_eq_true] at q
          rw [refuseLoop_ref]
          exact tail_lets self q.2
        · cases q
      · cases q
structure XC (K : PySem.W.Frag) (C : Addr) (bm : List Value) : Prop where
  lk : ∃ nm q N bs sn sub ab col dd k0 k1 k2 k3 k5, K.lookup C = some (excClassObj nm q C N bs bm true sn sub ab col dd k0 k1 k2 k3 k5 "ValueError.__new__")
  tl : PySem.W.tailIn K vMro bm = true
  kp : PySem.W.keepIn K (.ref C) = true
  ga : PySem.W.findIn K (.ref C) "__getattribute__" = some (some (.builtin "BaseException.__getattribute__"))
  gh : PySem.W.findIn K (.ref C) "__getattr__" = some none
  gc : PySem.W.findIn K (.ref C) "__class__" = some (some (.builtin "object.__class__"))
  sa : PySem.W.findIn K (.ref C) "__setattr__" = some (some (.builtin "object.__setattr__"))
section
variable {K : PySem.W.Frag} {C W : Addr} {bm bw : List Value}
theorem XC.cls (c : XC K C bm) : ∃ cd, PySem.W.clsIn K C = some cd ∧ cd.mro = .ref C :: bm ∧ cd.hasDict = true := by
  obtain ⟨nm, q, N, bs, sn, sub, ab, col, dd, k0, k1, k2, k3, k5, lk⟩ := c.lk
  exact ⟨_, by unfold PySem.W.clsIn; rw [lk], rfl, rfl⟩
theorem XC.mro (c : XC K C bm) (v : Value) : PySem.W.mroIn K C v = some ((Value.ref C :: bm).contains v) := by
  obtain ⟨cd, h1, h2, _⟩ := c.cls
  unfold PySem.W.mroIn
  rw [h1, Option.bind_some, h2, if_neg (by simp)]
theorem XC.has (c : XC K C bm) {v : Value} (hv : vMro.contains v = true) : (Value.ref C :: bm).contains v = true := by rw [List.contains_cons, tail_has hv c.tl, Bool.or_true]
theorem XC.xcls (c : XC K C bm) : XCls K C bm := by
  obtain ⟨nm, q, N, bs, sn, sub, ab, col, dd, k0, k1, k2, k3, k5, lk⟩ := c.lk
  exact ⟨tail_has (by decide) c.tl, _, _, _, _, _, _, _, _, _, _, _, _, _, _, _, _, lk⟩
theorem XC.dict (c : XC K C bm) : PySem.W.hasDictIn K C = true := by
  obtain ⟨cd, h1, _, h3⟩ := c.cls
  unfold PySem.W.hasDictIn
  rw [h1]
  exact h3
theorem XC.ty (c : XC K C bm) : PySem.W.typeIn K (.ref C) = some (.type "type") := by
  obtain ⟨nm, q, N, bs, sn, sub, ab, col, dd, k0, k1, k2, k3, k5, lk⟩ := c.lk
  show (K.lookup C).map (·.cls) = _
  rw [lk]
  rfl
theorem kit_xx (c : XC K C bm) (d : XC K W bw) : PySem.W.kitOne K (.ref C) (.ref W) = some ((Value.ref C :: bm).contains (.ref W)) := by
  unfold PySem.W.kitOne
  by_cases q : C = W
  · subst q
    rw [if_pos (by simp), List.contains_cons]
    simp
  · obtain ⟨cd, h1, _, _⟩ := d.cls
    rw [if_neg (by simpa using q)]
    unfold PySem.W.kitCls
    dsimp only
    rw [h1, d.ty]
    exact c.mro _
theorem kit_xv (c : XC K C bm) : PySem.W.kitOne K (.ref C) (.type "ValueError") = some true := by
  unfold PySem.W.kitOne
  rw [if_neg (by simp)]
  unfold PySem.W.kitCls
  dsimp only
  rw [if_pos (show PySem.W.kitMeta "ValueError" = true by with_unfolding_all rfl)]
  show PySem.W.mroIn K C _ = _
  rw [c.mro, c.has (by decide)]
theorem XC.tail (c : XC K C bm) {h : Heap} (X : K.In h) : OwnTail h vMro bm := PySem.W.tail_of_in X c.tl
end

/-! ### C(..) -/
abbrev xTup (us : List Value) : Obj := { cls := .type "tuple", data := .seq us.toArray }
abbrev xNew (C t : Addr) : Obj := { cls := .ref C, data := .fields #[.ref t, .none, .none, .none, .bool false, .none] }
abbrev xHp (h : Heap) (C : Addr) (us : List Value) : Heap := (h.push (xTup us)).push (xNew C h.objs.size)
section
variable {prog : Program} {w : World} {A : Around} {E : Value → Shared → Prop} {h : Heap} {g : Array GenState} {d : Drawn} {t : Nat} {os : OsState} {K : PySem.W.Frag} {C : Addr} {bm us : List Value}
theorem xHp_keep {b : Addr} {o : Obj} (e : h.get? b = some o) : (xHp h C us).get? b = some o := Heap.get?_push_of_some _ (Heap.get?_push_of_some _ e)
theorem xHp_new : (xHp h C us).get? (h.objs.size + 1) = some (xNew C h.objs.size) := by
  have := Heap.get?_push_size (h.push (xTup us)) (o := xNew C h.objs.size) rfl
  rwa [Heap.size_push] at this
theorem x_born {init : Value} {Q : Fin → Shared → Prop} (X : K.In h) (c : XC K C bm) (hu : us.length ≤ sizeLine) (hi : PySem.W.Looks (model prog w) h (typeLookup (.ref C) "__init__") (some init))
    (hb : ∀ self, PySem.W.Looks (model prog w) h (bindSpecial init self) (init, [self]))
    (go : wpAny (model prog w) A (call init (.ref (h.objs.size + 1) :: us)) (fun r s' => r = .none ∧ Q (.done (.ret (.ref (h.objs.size + 1)))) s') E ⟨xHp h C us, g, d, t, os⟩) :
    wpAny (model prog w) A (Builtin.«type.__call__» ⟨.ref C :: us, []⟩) Q E ⟨h, g, d, t, os⟩ := by
  have F := PySem.F.excBase_ValueError
  have T := c.tail X
  obtain ⟨nm, qn, N, bs, sn, sub, ab, col, dd, k0, k1, k2, k3, k5, lk⟩ := c.lk
  have cC := X _ _ lk
  repeat (first
    | with_reducible refine wpAny_loadPart_at cC ?_
    | with_reducible refine wpAny_madeBy_exc cC ?_
    | wp_step)
  refine codeAny_call_builtin_code (Code.quiet_builtin _ F.quiet) (wpAny_check_new_subT F T cC ?_)
  refine codeAny_exc_new_subT F T cC ?_ hu
  show wpAny _ _ _ _ _ _
  have c2 := xHp_keep (C := C) (us := us) cC
  have n2 : (xHp h C us).get? (h.objs.size + 1) = some (xNew C h.objs.size) := xHp_new
  have self : (Value.ref C :: bm).contains (.ref C) = true := by simp
  unfold isInstance
  repeat (first
    | with_reducible refine wpAny_loadPart_at n2 ?_
    | (with_reducible refine wpAny_isSubtype_exc c2 ?_; rw [self])
    | wp_step)
  show wpAny _ _ (typeLookup (.ref C) _) _ _ _
  refine (hi.keeps fun _ _ => xHp_keep).at ?_
  refine wpAny_holding (wpAny_bind (((hb _).keeps fun _ _ => xHp_keep).at ?_))
  refine wpAny_bind (wpAny_mono go (fun r s' z => ?_) fun _ _ z => z)
  obtain ⟨rfl, z⟩ := z
  wp_walk
  exact z
theorem x_call {init : Value} {Q : Value → Shared → Prop} (X : K.In h) (c : XC K C bm) (hu : us.length ≤ sizeLine) (hi : PySem.W.Looks (model prog w) h (typeLookup (.ref C) "__init__") (some init))
    (hb : ∀ self, PySem.W.Looks (model prog w) h (bindSpecial init self) (init, [self]))
    (go : wpAny (model prog w) (A.under (.builtin "type.__call__" ⟨.ref C :: us, []⟩)) (call init (.ref (h.objs.size + 1) :: us)) (fun r s' => r = .none ∧ Q (.ref (h.objs.size + 1)) s') E ⟨xHp h C us, g, d, t, os⟩) :
    wpAny (model prog w) A (call (.ref C) us) Q E ⟨h, g, d, t, os⟩ := by
  obtain ⟨nm, qn, N, bs, sn, sub, ab, col, dd, k0, k1, k2, k3, k5, lk⟩ := c.lk
  have cC := X _ _ lk
  have l1 := tc_lookup
  have l2 := tc_bind (.ref C)
  have ty : (⟨h, g, d, t, os⟩ : Shared).TypeIs (.ref C) "type" := ⟨_, cC, rfl⟩
  refine wpAny_call (codeAny_of_tree ?_)
  show wpAny _ _ (callAny (.ref C) _) _ _ _
  repeat (any_goals (first
    | assumption
    | with_reducible refine wpAny_loadPart_at cC ?_
    | wp_step))
  refine ⟨rfl, ?_⟩
  exact codeAny_call_builtin_at (Code.quiet_builtin _ (by decide +kernel)) entry_typeCall (wpAny_check_type_call_sub cC (x_born X c hu hi hb go))
end
end L2

set_option Elab.async false
set_option linter.all false
set_option maxRecDepth 100000
set_option maxHeartbeats 1000000
namespace L2
open PySem PySem.Spec PyProof.Rows
/-! ### its attributes -/
section
variable {prog : Program} {w : World} {A : Around} {E : Value → Shared → Prop} {s : Shared} {K : PySem.W.Frag} {C x : Addr} {bm : List Value} {ox : Obj} {od : Option Obj} {name : Str}
theorem x_by {tk : Tok} {fill ex : Bool} {Q : Value → Shared → Prop} (X : K.In s.heap) (c : XC K C bm) (I : PySem.W.InstAt s.heap x ox C od)
    (go : ∀ A', wpAny (model prog w) A' (Builtin.«object.__getattribute__» ⟨[.ref x, .str name tk], []⟩) (fun fin s' => ∃ v, fin = .done (.ret v) ∧ PySem.W.handedIn v = true ∧ Q v s') (fun _ _ => False) s) :
    wpAny (model prog w) A (getAttrBy (.ref x) (.str name tk) fill ex) Q E s := by
  have FA := PySem.F.attrBase_ValueError
  have l0 := I.type (M := model prog w)
  have l1 := PySem.W.looks_findIn (M := model prog w) X c.ga
  have l2 := PySem.W.looks_findIn (M := model prog w) X c.gh
  have nb : (Value.builtin "BaseException.__getattribute__" == Value.builtin "object.__getattribute__") = false := by decide +kernel
  have no : (onTheHeap (Value.ref C) && Value.builtin "BaseException.__getattribute__" == Value.builtin "object.__getattribute__") = false := by rw [nb]; rfl
  have ne : (ex && onTheHeap (Value.builtin "BaseException.__getattribute__")) = false := by cases ex <;> rfl
  unfold getAttrBy
  refine wpAny_holding (wpAny_bind (l0.here (wpAny_bind (l1.here ?_))))
  dsimp only
  rw [no, if_neg (by decide)]
  unfold getAttrByItsOwn
  refine wpAny_bind ?_
  show wpAny _ _ (typeLookup (.ref C) "__getattr__") _ _ _
  refine l2.here ?_
  refine wpAny_bind (wpAny_attempt (wpAny_holding ?_))
  unfold callGetattribute
  rw [ne, if_neg (by decide)]
  unfold boundAndCalled
  rw [FA.ga.bind]
  refine wpAny_bind (wpAny_pure ?_)
  show wpAny _ _ (call (.builtin "BaseException.__getattribute__") [.ref x, .str name tk]) _ _ _
  have lb : PySem.W.Looks (model prog w) s.heap (isInstance (.ref x) (.type "BaseException")) true := l0.andThen (PySem.W.looks_mroIn X (by rw [c.mro, c.has (by decide)]))
  have k1 : builtinKind "BaseException.__getattribute__" = some .slot := by decide +kernel
  have k2 : splitId "BaseException.__getattribute__" = some ("BaseException", "__getattribute__") := by decide +kernel
  refine wpAny_call (codeAny_call_builtin FA.ga.plain PySem.F.entry_bexc_ga ?_)
  refine @PySem.W.check_slot (model prog w) _ _ s "BaseException.__getattribute__" "BaseException" "__getattribute__" (.ref x) [.str name tk] [] _ k1 k2 lb (PySem.F.args_bexc_ga (.ref x) (.str name tk)) ?_
  refine wpAny_mono (go _) (fun fin s' z => ?_) fun _ _ z => z.elim
  obtain ⟨v, rfl, hv, q⟩ := z
  dsimp only
  rw [PySem.W.handedOut_of hv]
  exact wpAny_pure q
theorem x_get {v : Value} {ex : Bool} {Q : Value → Shared → Prop} (X : K.In s.heap) (c : XC K C bm) (I : PySem.W.InstAt s.heap x ox C od) (hf : PySem.W.findObj K C od name = some (.value v)) (hv : PySem.W.handedIn v = true)
    (q : Q v { s with toks := s.toks + 1 }) : wpAny (model prog w) A (getAttr (.ref x) name ex) Q E s := by
  unfold getAttr
  refine wpAny_bind (wpAny_mkText ?_)
  refine x_by (s := { s with toks := s.toks + 1 }) X c I fun A' => ?_
  have l0 := I.type (M := model prog w)
  have l1 := PySem.W.looks_find (M := model prog w) X I hf
  obtain ⟨hh, g, d, t, os⟩ := s
  unfold Builtin.«object.__getattribute__» slotArgs
  repeat lk
  exact ⟨v, rfl, hv, q⟩
theorem get_get (K : PySem.W.Frag) : PySem.W.specialIn K (.builtin "object.__class__") "__get__" = some (some (.builtin "getset_descriptor.__get__")) := by with_unfolding_all rfl
theorem get_takes (K : PySem.W.Frag) : PySem.W.takesIn K (.builtin "object.__class__") = some true := by with_unfolding_all rfl
theorem x_class {Q : Option Value → Shared → Prop} (X : K.In s.heap) (c : XC K C bm) (I : PySem.W.InstAt s.heap x ox C od) (q : Q (some (.ref C)) { s with toks := s.toks + 1 }) : wpAny (model prog w) A (getAttr? (.ref x) "__class__") Q E s := by
  have hf : PySem.W.findObj K C od "__class__" = some (.bind (.builtin "getset_descriptor.__get__") (.builtin "object.__class__")) := by
    obtain ⟨cd, h1, _⟩ := c.cls
    unfold PySem.W.findObj
    rw [h1, Option.bind_some, c.gc, Option.bind_some]
    simp [get_get, get_takes]
  unfold getAttr? getAttrBy?
  refine wpAny_bind (wpAny_mkText ?_)
  refine wpAny_bind (wpAny_attempt (wpAny_mono (Q := fun v s' => v = .ref C ∧ Q (some (.ref C)) s') (E := fun _ _ => False) ?_ (fun v s' z => ?_) fun _ _ z => z.elim))
  · refine x_by (s := { s with toks := s.toks + 1 }) X c I fun A' => ?_
    have l0 := I.type (M := model prog w)
    have l1 := PySem.W.looks_find (M := model prog w) X I hf
    have cg : ∀ A2 R, R (.ok (.ret (.ref C))) { s with toks := s.toks + 1 } → codeAny (model prog w) A2 (.call (.builtin "getset_descriptor.__get__") ⟨[.builtin "object.__class__", .ref x, .ref C], []⟩) R { s with toks := s.toks + 1 } := fun A2 R z =>
      PySem.W.class_get (s := { s with toks := s.toks + 1 }) X I (by rw [c.mro, c.has (by decide)]) z
    obtain ⟨hh, g, d, t, os⟩ := s
    unfold Builtin.«object.__getattribute__» slotArgs
    repeat (first | with_reducible refine wpAny_call ?_ | lk)
    refine cg _ _ ?_
    exact wpAny_pure ⟨_, rfl, rfl, rfl, q⟩
  · obtain ⟨rfl, z⟩ := z
    exact wpAny_pure z
theorem x_set {v : Value} {vs : Array Value} {o : Obj} {Q : Unit → Shared → Prop} (X : K.In s.heap) (c : XC K C bm) (ha : PySem.W.findIn K (.ref C) name = some none) (hx : s.heap.get? x = some o) (hc : o.cls = .ref C) (hd : o.dict = none) (hv : o.data = .fields vs)
    (go : ∀ h' tk, h'.get? x = some { o with dict := some s.heap.objs.size } → h'.Ns1 s.heap.objs.size (fun y => if y = name then some v else none) → (∀ b ob, b ≠ x → s.heap.get? b = some ob → h'.get? b = some ob) → Q () { s with heap := h', toks := tk }) :
    wpAny (model prog w) A (setAttr (.ref x) name v) Q E s := by
  have I : PySem.W.InstAt s.heap x o C none := ⟨hx, hc, by unfold PySem.W.notCls; rw [hv], by rw [hd]; trivial⟩
  have SF := PySem.F.store_object
  obtain ⟨cd, h1, h2, h3⟩ := c.cls
  have l0 := I.type (M := model prog w)
  have l1 := PySem.W.looks_findIn (M := model prog w) X ha
  have l2 : PySem.W.Looks (model prog w) s.heap (mroOf (.ref C)) cd.mro := (PySem.W.looks_clsIn X h1).andThen .now
  have l3 := PySem.W.looks_clsIn (M := model prog w) X h1
  have lb : PySem.W.Looks (model prog w) s.heap (isInstance (.ref x) (.type "object")) true := l0.andThen (PySem.W.looks_mroIn X (by rw [c.mro, c.has (by decide)]))
  refine PySem.W.set_plain X I c.sa ?_
  refine codeAny_call_builtin SF.slot.plain SF.entry (@PySem.W.check_slot (model prog w) _ _ { s with toks := s.toks + 1 } "object.__setattr__" "object" "__setattr__" (.ref x) [.str name s.toks, v] [] _ SF.kind SF.split lb (SF.args (.ref x) (.str name s.toks) v) ?_)
  rw [PySem.W.osa_eq, refuse_eq]
  obtain ⟨hh, g, d, t, os⟩ := s
  refine wpAny_bind (wpAny_bind (l0.at (wpAny_bind (l2.at ?_))))
  rw [h2, refuseLoop_ref, tail_lets _ c.tl]
  refine wpAny_pure (wpAny_bind (l0.at (wpAny_bind (l1.at (wpAny_bind (wpAny_pure ?_))))))
  obtain ⟨oc, odi, oda, osl⟩ := o
  dsimp only at hc hd hv hx go
  subst hc hd hv
  show wpAny _ _ (Builtin.ObjectAttr.storeInOwnDict _ _ _ _ _ _) _ _ _
  unfold Builtin.ObjectAttr.storeInOwnDict
  refine wpAny_bind (wpAny_pure (wpAny_bind ?_))
  show wpAny _ _ (instanceDict x true) _ _ _
  unfold instanceDict
  refine wpAny_bind (wpAny_loadPart hx ?_)
  dsimp only
  refine wpAny_bind (l3.at ?_)
  rw [h3]
  have nsz : x ≠ hh.objs.size := Nat.ne_of_lt (Heap.lt_size hx)
  have x1 := Heap.get?_push_of_some PySem.W.emptyDict hx
  refine wpAny_bind (wpAny_alloc' (wpAny_bind (wpAny_update' x1 ?_)))
  refine wpAny_pure ?_
  generalize hg : ((hh.push PySem.W.emptyDict).update x fun o => { o with dict := some hh.objs.size }) = h2
  have xd : h2.get? x = some ⟨.ref C, some hh.objs.size, .fields vs, osl⟩ := by rw [← hg]; exact Heap.get?_update_self _ x1 rfl
  have dd : h2.get? hh.objs.size = some PySem.W.emptyDict := by rw [← hg]; exact (Heap.get?_update_ne _ _ _ _ nsz.symm).trans (Heap.get?_push_at rfl rfl)
  have kp : ∀ b ob, b ≠ x → hh.get? b = some ob → h2.get? b = some ob := fun b ob nb q => by rw [← hg]; exact (Heap.get?_update_ne _ _ _ _ nb).trans (Heap.get?_push_of_some _ q)
  have nd : h2.Ns hh.objs.size (fun _ => none) := ⟨_, #[], _, dd, rfl, fun e he => absurd he (by simp), fun _ => rfl⟩
  show wpAny _ _ (Builtin.ObjectAttr.storeInDict hh.objs.size _ name v) _ _ _
  unfold Builtin.ObjectAttr.storeInDict Builtin.ObjectAttr.newKeyGuard
  refine wpAny_bind (wpAny_pure (wpAny_bind (wpAny_nsSet1 (Heap.Ns1.of_empty nd) fun h' hn sb => ?_)))
  obtain ⟨oD, es, ep, g1, g2, g3⟩ := hn.count (Within.cons name v Within.nil)
  refine wpAny_bind (wpAny_lookBehind g1 (by rw [g2]; exact pastItsLine_dict (Nat.le_trans g3 (by rw [List.length_cons, List.length_nil, sizeLine_eq]; omega))) ?_)
  refine wpAny_pure ?_
  exact go h' _ ((sb.2 x nsz).trans xd) hn fun b ob nb q => (sb.2 b (Nat.ne_of_lt (Heap.lt_size q))).trans (kp b ob nb q)
end
/-- what is known of an exception's object -/
def XKn (K : PySem.W.Frag) (H : Hp) (e C : Addr) (bm : List Value) : Prop := XC K C bm ∧ ∃ fr dx, H e = some (xO fr (.ref C) dx e) ∧ ∀ d, dx = some d → ∃ fs, H d = some (.xd fs)
theorem XKn.inst {X : Cx} {pins : List (Addr × Obj)} {σ : St} {H : Hp} {s : Shared} {e C : Addr} {bm : List Value} (I : Inv X pins σ H s) (k : XKn X.K H e C bm) : ∃ ox od, PySem.W.InstAt s.heap e ox C od := by
  obtain ⟨_, fr, dx, h1, h2⟩ := k
  obtain ⟨⟨oe, vs, g1, g2, g3, g4, _⟩, _⟩ := (show ObjOk X.prog X.w H s.heap e (xO fr (.ref C) dx e) from I.hok e _ h1)
  have nc : PySem.W.notCls oe = true := by unfold PySem.W.notCls; rw [g4]
  cases dx with
  | none => exact ⟨oe, none, g1, g2, nc, by rw [g3]; trivial⟩
  | some d =>
    obtain ⟨fs, hd⟩ := h2 d rfl
    obtain ⟨mA, ⟨o, es, ep, z, _⟩, _⟩ := (show ObjOk X.prog X.w H s.heap d (.xd fs) from I.hok d _ hd)
    exact ⟨oe, some o, g1, g2, nc, by rw [g3]; exact z⟩
def XIs (e C : Addr) (h : Heap) : Prop := ∃ ox od, PySem.W.InstAt h e ox C od
theorem kitx_x {K : PySem.W.Frag} {e C : Addr} {bm : List Value} (c : XC K C bm) : PySem.W.KitX K (.ref e) (.ref C) (XIs e C) where
  ty := fun _ _ _ ⟨_, _, I⟩ => I.type
  it := fun _ _ X _ => by
    obtain ⟨nm, q, N, bs, sn, sub, ab, col, dd, k0, k1, k2, k3, k5, lk⟩ := c.lk
    intro A' Q' E' s' k q
    unfold isType loadHead
    exact wpAny_bind (wpAny_loadPart (k _ _ (X _ _ lk)) (wpAny_pure q))
  ne := fun h tp dd its n sl X htp => by
    obtain ⟨nm, q, N, bs, sn, sub, ab, col, dd, k0, k1, k2, k3, k5, lk⟩ := c.lk
    refine Bool.eq_false_iff.mpr fun q => ?_
    have z : C = tp := Value.ref.inj (beq_iff_eq.mp q)
    subst z
    have zz := Option.some.inj ((X _ _ lk).symm.trans htp)
    have z2 := congrArg Obj.data zz
    cases z2
  ca := fun X ⟨_, _, I⟩ k => x_class X c I k
end L2

set_option Elab.async false
set_option linter.all false
set_option maxRecDepth 100000
set_option maxHeartbeats 4000000
namespace L2
open PySem PySem.Spec PyProof.Rows
/-! ### isinstance of an exception; its word -/
def rIsx (K : PySem.W.Frag) : List V → Hp → VK → Prop := fun xs H Q => ∃ e C bm c, xs = [.ref e, c] ∧ XKn K H e C bm ∧
  ((c = .ty "ValueError" ∧ Q (.bl true) H) ∨ (∃ W bw, c = .ref W ∧ XC K W bw ∧ Q (.bl ((Value.ref C :: bm).contains (.ref W))) H) ∨
    ∃ p U V bu bv, c = .ref p ∧ H p = some (.tup [.ref U, .ref V]) ∧ XC K U bu ∧ XC K V bv ∧ Q (.bl ((Value.ref C :: bm).contains (.ref U) || (Value.ref C :: bm).contains (.ref V))) H)
section
variable {X : Cx} {a c o e value : Expr} {ta tc tv : TE} {p pos pos' : Pos} {f : Str}
theorem call_isx : CallR X (.builtin "isinstance") (rIsx X.K) := by
  intro pins s σ H xs us Q I r h
  obtain ⟨e, C, bm, c, rfl, kn, h⟩ := h
  obtain ⟨u, u2, rfl, rx, r2⟩ := vals2 r
  obtain rfl : u = Value.ref e := rx
  have xi : XIs e C s.heap := kn.inst I
  have cc := kn.1
  rcases h with ⟨rfl, q⟩ | ⟨W, bw, rfl, cw, q⟩ | ⟨p, U, V, bu, bv, rfl, hp, cu, cv, q⟩
  · obtain rfl : u2 = Value.type "ValueError" := r2
    exact PySem.W.kia_one (kitx_x cc) I.kIn xi (kit_xv cc) (fun z => nomatch z) fun tk => ⟨.bl true, H, I.tok tk, rfl, q⟩
  · obtain rfl : u2 = Value.ref W := r2
    exact PySem.W.kia_one (kitx_x cc) I.kIn xi (kit_xx cc cw) (fun z => nomatch z) fun tk => ⟨.bl _, H, I.tok tk, rfl, q⟩
  · obtain rfl : u2 = Value.ref p := r2
    obtain ⟨_, its, rv, o, g1, g2, n, g3⟩ := (show ObjOk X.prog X.w H s.heap p (.tup [.ref U, .ref V]) from I.hok p _ hp)
    obtain ⟨i1, i2, rfl, e1, e2⟩ := rv.two
    obtain rfl : i1 = Value.ref U := e1
    obtain rfl : i2 = Value.ref V := e2
    obtain ⟨oc, od, da, sl⟩ := o
    dsimp only at g2 g3
    subst g2 g3
    have ka : PySem.W.kitAny X.K (.ref C) [.ref U, .ref V] = some ((Value.ref C :: bm).contains (.ref U) || (Value.ref C :: bm).contains (.ref V)) := by
      unfold PySem.W.kitAny
      rw [kit_xx cc cu]
      cases (Value.ref C :: bm).contains (.ref U) with
      | true => rfl
      | false =>
        unfold PySem.W.kitAny
        rw [kit_xx cc cv]
        cases (Value.ref C :: bm).contains (.ref V) <;> rfl
    exact PySem.W.kia_tup (kitx_x cc) I.kIn xi g1 ka (fun z => nomatch z) fun tk => ⟨.bl _, H, I.tok tk, rfl, q⟩
theorem pe_isx (hm : X.mg "isinstance" = none) (ha : PE X a ta) (hc : PE X c tc) (hg : Gl X "isinstance" := by rfl)
    (he : starEach [a, c] X.env = (false, eval a X.env) :: starEach [c] X.env := by rfl) (hpl : (backTo pos (starEach [c] X.env)).any (·.1) = false := by rfl) (he2 : starEach [c] X.env = [(false, eval c X.env)] := by rfl) :
    PE X (.Call (.Name "isinstance" p) [a, c] [] pos) (fun σ H Q => ta σ H fun x H1 => tc σ H1 fun y H2 => rIsx X.K [x, y] H2 Q) :=
  pe_callB call_isx hg hm bt_isinstance (pa_cons ha (pa_cons hc pa_nil he2) he) (by decide) (by decide) he hpl
/-- e.f of an exception that has a dict -/
def tXFld (K : PySem.W.Frag) (ta : TE) (f : Str) : TE := fun σ H Q => ta σ H fun x H1 => ∃ a C bm fr dx fs v, x = .ref a ∧ XC K C bm ∧ H1 a = some (xO fr (.ref C) (some dx) a) ∧ H1 dx = some (.xd fs) ∧ NoAttr K C f ∧ fs.lookup f = some v ∧ Q v H1
theorem pe_xfld (he : PE X e ta) (hb : attributeBase e f X.env (eval e X.env) = eval e X.env) : PE X (.Attribute e f pos) (tXFld X.K ta f) := by
  intro pins s σ H Q I h
  refine attr_of hb (thn (he pins s σ H _ I h) fun u s1 ⟨x, H1, I1, rx, a, C, bm, fr, dx, fs, v, ex, c, ha, hd, n, l, q⟩ => ?_)
  subst ex
  obtain rfl : u = Value.ref a := rx
  obtain ⟨⟨oe, vs, g1, g2, g3, g4, _⟩, _⟩ := (show ObjOk X.prog X.w H1 s1.heap a (xO fr (.ref C) (some dx) a) from I1.hok a _ ha)
  obtain ⟨mA, ⟨od, es, ep, z1, z2, z3, z4, z5⟩, rf⟩ := (show ObjOk X.prog X.w H1 s1.heap dx (.xd fs) from I1.hok dx _ hd)
  obtain ⟨w, hw, rw'⟩ := RelO.some_of (v := v) (o := mA f) (by rw [← l]; exact rf f)
  have li : PySem.W.lookIn f od = some (some w) := by
    have q5 := z5 f
    rw [hw] at q5
    unfold PySem.W.lookIn
    rw [z2]
    dsimp only
    unfold nsFind findBy at q5
    rw [← Array.find?_toList] at q5
    cases ef : es.toList.find? (·.key.isStr f) with
    | none => rw [ef] at q5; cases q5
    | some en => rw [ef] at q5; cases q5; rfl
  have J : PySem.W.InstAt s1.heap a oe C (some od) := ⟨g1, g2, by unfold PySem.W.notCls; rw [g4], by rw [g3]; exact z1⟩
  exact x_get I1.kIn c J (PySem.W.findObj_own c.dict n rfl li) (handed_of rw') ⟨v, H1, I1.tok _, rw', q⟩
/-- e.f = value, the first one -/
def sXFld (K : PySem.W.Frag) (ta tv : TE) (f : Str) : TS := fun D σ H => tv σ H fun y H1 => ta σ H1 fun x H2 => ∃ a C bm fr, x = .ref a ∧ XC K C bm ∧ H2 a = some (xO fr (.ref C) none a) ∧ NoAttr K C f ∧
  ∀ dx, H2 dx = none → dx ≠ a → D.nx σ (upd (upd H2 a (xO fr (.ref C) (some dx) a)) dx (.xd [(f, y)]))
theorem ps_xfld (ha : PE X o ta) (hv : PE X value tv) (hs : swapsWith value (some (.Attribute o f pos')) pos.line X.env = pure false) : PS X (.Assign [.Attribute o f pos'] value pos) (sXFld X.K ta tv f) := by
  intro pins s σ H D I h
  refine plainObj_wpAny_Assign_Attribute (thn (hv pins s σ H _ I h) fun u s1 ⟨y, H1, I1, ry, q⟩ => thn (ha pins s1 σ H1 _ I1 q) fun ov s2 ⟨x, H2, I2, rx, a, C, bm, fr, ex, c, hA, n, q2⟩ => ?_) hs
  subst ex
  obtain rfl : ov = Value.ref a := rx
  obtain ⟨⟨oe, vs, g1, g2, g3, g4, g5⟩, _⟩ := (show ObjOk X.prog X.w H2 s2.heap a (xO fr (.ref C) none a) from I2.hok a _ hA)
  have fr0 : H2 s2.heap.objs.size = none := I2.hok.fresh (Nat.le_refl _)
  have na : s2.heap.objs.size ≠ a := Ne.symm (Nat.ne_of_lt (Heap.lt_size g1))
  refine x_set I2.kIn c n g1 g2 g3 g4 fun h' tk k1 k2 k3 => ⟨σ, _, ?_, q2 _ fr0 na⟩
  have old : ∀ b ob, H2 b = none → s2.heap.get? b = some ob → h'.get? b = some ob := fun b ob hb e => k3 b ob (fun z => by rw [z, hA] at hb; cases hb) e
  have up : ∀ b, b ≠ a → b ≠ s2.heap.objs.size → upd (upd H2 a (xO fr (.ref C) (some s2.heap.objs.size) a)) s2.heap.objs.size (.xd [(f, y)]) b = H2 b := fun b n1 n2 => by rw [upd_ne n2, upd_ne n1]
  have lt : ∀ b ob, s2.heap.get? b = some ob → b ≠ s2.heap.objs.size := fun b ob e => Nat.ne_of_lt (Heap.lt_size e)
  refine I2.un (t' := tk) ⟨fun b ob e n _ _ => old b ob n e, fun b ob e n _ _ => ⟨ob.slots, old b ob n e⟩, fun b ob e n _ => ?_, fun b ob e _ => ?_, fun b xs e => ?_, fun b ob u e => ?_, fun b ps e => ⟨#[], ?_⟩⟩ fun b u e => ?_
  · rw [up b (fun z => by rw [z, hA] at n; cases n) (lt b ob e)]; exact n
  · by_cases hb : b = a
    · subst hb; exact ⟨_, k1⟩
    · exact ⟨ob, k3 b ob hb e⟩
  · rw [up b (fun z => by rw [z, hA] at e; cases e) (fun z => by rw [z, fr0] at e; cases e)]; exact e
  · rw [up b (fun z => by rw [z, hA] at e; cases e) (fun z => by rw [z, fr0] at e; cases e)]; exact e
  · rw [up b (fun z => by rw [z, hA] at e; cases e) (fun z => by rw [z, fr0] at e; cases e), e]; simp
  · by_cases hd : b = s2.heap.objs.size
    · subst hd
      rw [upd_same] at e
      cases e
      refine ⟨_, k2, fun g => ?_⟩
      by_cases z : g = f
      · subst z; simp [List.lookup, RelO]; exact ry
      · have z2 : (g == f) = false := beq_eq_false_iff_ne.mpr z
        simp [List.lookup, z, z2, RelO]
    · by_cases hb : b = a
      · subst hb
        rw [upd_ne hd, upd_same] at e
        cases e
        exact xO_ok k1 g2 rfl g4 g5
      · rw [up b hb hd] at e
        refine (I2.hok b u e).stay (fun x ox hh r => k3 x ox (fun z => ?_) r) (fun x r => ?_) fun x xs r => ?_
        · subst z
          rcases hh with hh | hh
          · exact hb hh.symm
          · rw [hA] at hh; cases hh
        · rw [up x (fun z => by rw [z, hA] at r; cases r) (fun z => by rw [z, fr0] at r; cases r)]; exact r
        · rw [up x (fun z => by rw [z, hA] at r; cases r) (fun z => by rw [z, fr0] at r; cases r)]; exact r
end

/-! ### C(..), raise C(..) -/
def del (H : Hp) (e : Addr) : Hp := fun b => if b = e then none else H b
theorem del_ne {H : Hp} {e b : Addr} (h : b ≠ e) : del H e b = H b := if_neg h
theorem del_same {H : Hp} {e : Addr} : del H e e = none := if_pos rfl
theorem del_upd {H : Hp} {e : Addr} {o : HO} (h : H e = none) : del (upd H e o) e = H := by
  funext b
  by_cases q : b = e
  · subst q; rw [del_same, h]
  · rw [del_ne q, upd_ne q]
theorem del_upd_ne {H : Hp} {e d : Addr} {o : HO} (h : d ≠ e) : del (upd H d o) e = upd (del H e) d o := by
  funext b
  by_cases q : b = e
  · subst q; rw [del_same, upd_ne (Ne.symm h), del_same]
  · rw [del_ne q]
    by_cases z : b = d
    · subst z; rw [upd_same, upd_same]
    · rw [upd_ne z, upd_ne z, del_ne q]
section
variable {X : Cx} {pins : List (Addr × Obj)} {σ : St} {H : Hp} {s : Shared}
theorem Inv.untrack {e : Addr} {φ : Heap → Prop} (I : Inv X pins σ H s) (hx : H e = some (.ext φ)) : Inv X pins σ (del H e) s := by
  have nn : ∀ b, H b = none → del H e b = none := fun b n => by
    by_cases q : b = e
    · rw [q]; exact del_same
    · rw [del_ne q]; exact n
  have ne : ∀ {b : Addr} {o : HO}, H b = some o → (∀ ψ, o ≠ .ext ψ) → del H e b = some o := fun {b o} q n => by
    rw [del_ne (fun z => by rw [z, hx] at q; exact n φ (Option.some.inj q).symm)]; exact q
  refine ⟨I.ok, I.os, I.bare, ⟨I.base.keep, I.base.slot, fun b o q n m => nn b (I.base.free b o q n m), I.base.there, fun b xs q => ne (I.base.tups b xs q) fun _ z => (by cases z), fun b o u q => ne (I.base.frzs b o u q) fun _ z => (by cases z), fun b ps q => ?_⟩, I.loc, I.cell, nn _ I.free, fun y c q => nn _ (I.freeC y c q), fun p hp => ?_, fun b u q => ?_, I.len⟩
  · obtain ⟨more, z⟩ := I.base.tbls b ps q
    exact ⟨more, ne z fun _ z => by cases z⟩
  · obtain ⟨a, b, c⟩ := I.pin p hp
    exact ⟨a, nn _ b, c⟩
  · by_cases z : b = e
    · rw [z, del_same] at q; cases q
    · rw [del_ne z] at q
      exact (I.hok b u q).stay (fun _ _ _ r => r) (fun c r => ne r fun _ z => by cases z) fun c xs r => ne r fun _ z => by cases z
end
section
variable {X : Cx} {C f : Addr} {bm : List Value} {k : Nat} {fd : FuncData} {ps : List Str} {sp : Sp} {x : Str} {p pos rpos : Pos} {e : Expr} {es : List Expr} {t : TA}
/-- what a class must have to be made: its own __init__, or ValueError's -/
structure XMk (P : Program) (w : World) (K : PySem.W.Frag) (mg : Str → Option Value) (base : Heap) (C : Addr) (k : Nat) (sp : Sp) : Prop where
  ok : ∃ f fd ps, PySem.W.findIn K (.ref C) "__init__" = some (some (.ref f)) ∧ PySem.W.typeIn K (.ref f) = some (.type "function") ∧ FnOk P w K mg base CX0 k f fd ps sp ∧ Binds K fd ps []
theorem Inv.xborn {pins : List (Addr × Obj)} {σ : St} {H : Hp} {s : Shared} {us : List Value} (I : Inv X pins σ H s) : Inv X pins σ (upd H (s.heap.objs.size + 1) (xO true (.ref C) none (s.heap.objs.size + 1))) { s with heap := xHp s.heap C us } :=
  I.laid (a := s.heap.objs.size + 1) (o := xO true (.ref C) none (s.heap.objs.size + 1)) (t' := s.toks) (fun _ _ => xHp_keep) (Nat.le_succ _) (xO_ok xHp_new rfl rfl rfl fun _ => ⟨_, rfl⟩)
theorem run_x {pins : List (Addr × Obj)} {σ : St} {H : Hp} {s : Shared} {Q : Addr → Hp → Prop} {us : List Value} {vs : List V} (c : XC X.K C bm) (M : XMk X.prog X.w X.K X.mg X.base C k sp) (hr : Room (k + 1) X.A) (I : Inv X pins σ H s) (r : Vals vs us) (hu : vs.length ≤ sizeLine)
    (h : ∀ e, H e = none → sp (.ref e :: vs) (upd H e (xO true (.ref C) none e)) (fun v H2 => v = .non ∧ Q e H2) E0) :
    wpAny (model X.prog X.w) X.A (call (.ref C) us) (fun u s' => ∃ e H2, u = .ref e ∧ s.heap.objs.size ≤ e ∧ Inv X pins σ H2 s' ∧ Q e H2) X.xe s := by
  obtain ⟨f, fd, ps, hi, hf, F, hb⟩ := M.ok
  have hq := h (s.heap.objs.size + 1) (I.hok.fresh (Nat.le_succ _))
  have I2 := Inv.xborn (C := C) (us := us) I
  have r2 : Vals (V.ref (s.heap.objs.size + 1) :: vs) (Value.ref (s.heap.objs.size + 1) :: us) := .cons rfl r
  have hl : (Value.ref (s.heap.objs.size + 1) :: us ++ []).length = ps.length := by
    rw [List.append_nil, ← r2.length]
    exact F.len _ _ _ _ hq
  have bd := hb _ (Value.ref (s.heap.objs.size + 1) :: us) I2.kIn hl
  rw [List.append_nil] at bd
  have run := F.run _ X.stack _ _ ⟨Value.ref (s.heap.objs.size + 1) :: us, []⟩ (Value.ref (s.heap.objs.size + 1) :: us) _ _ E0 (hr.make C us []) (I2.env0.make C us []) bd r2 hq
  have K0 := I.kIn
  have sz : s.heap.objs.size ≤ s.heap.objs.size + 1 := Nat.le_succ _
  obtain ⟨hh, g, d, tk, os⟩ := s
  refine x_call K0 c (by rw [← r.length]; exact hu) (PySem.W.looks_findIn K0 hi) (fun self => PySem.W.bind_fn K0 self hf) ?_
  refine wpAny_call (codeAny_mono run fun rr s' z => ?_)
  cases rr with
  | error ev => exact z.elim
  | ok fl =>
    cases fl with
    | ret u =>
      obtain ⟨v, H', I3, rv, ev, q3⟩ := I2.after z
      subst ev
      exact ⟨rv, _, H', rfl, sz, I3, q3⟩
    | _ => exact z.elim
theorem ev_exc {pins : List (Addr × Obj)} {σ : St} {H : Hp} {s : Shared} {R : List V → Hp → Prop} {Q : Value → Shared → Prop} (c : XC X.K C bm) (hg : Gl X x) (hm : X.mg x = some (.ref C)) (ha : PA X (e :: es) t) (I : Inv X pins σ H s) (h : t σ H R)
    (go : ∀ us vs s1 H1, Inv X pins σ H1 s1 → Vals vs us → R vs H1 → X.s₀.heap.objs.size ≤ s1.heap.objs.size → wpAny (model X.prog X.w) X.A (call (.ref C) us) Q X.xe s1)
    (hdb : (x == ("__debug__" : Str)) = false := by decide) (he : starEach (e :: es) X.env = (false, eval e X.env) :: starEach es X.env := by rfl) (hpl : (backTo pos (starEach es X.env)).any (·.1) = false := by rfl) :
    wpAny (model X.prog X.w) X.A (eval (.Call (.Name x p) (e :: es) [] pos) X.env) Q X.xe s := by
  refine wpAny_Call_Name_kw (ld_glob I hg hm ?_ hdb)
  exact PySem.W.callWith_K (h₀ := X.base) I.ok.mod.kin c.kp (thn (ha pos pins s σ H _ I h) fun us s1 ⟨vs, H1, I1, r, q⟩ => ⟨I1.kIn, go us vs s1 H1 I1 r q I1.sz⟩) he hpl
/-- raise of what is an exception -/
theorem x_raise {M : Model} {A : Around} {E : Value → Shared → Prop} {s : Shared} {env : Env} {v : Sem Value} {Q : Flow → Shared → Prop} {K : PySem.W.Frag} (hh : A.handled = none) (c : XC K C bm)
    (h : wpAny M A v (fun u s1 => ∃ e oe a0, u = .ref e ∧ K.In s1.heap ∧ s1.heap.get? e = some oe ∧ oe.cls = .ref C ∧ oe.data = .fields #[a0, .none, .none, .none, .bool false, .none] ∧ E u s1) E s) : wpAny M A (raiseStmt env (some v) none) Q E s := by
  have hB := c.has (v := .type "BaseException") (by decide)
  obtain ⟨nm, qn, N, bs, sn, sub, ab, col, dd, k0, k1, k2, k3, k5, lk⟩ := c.lk
  unfold raiseStmt
  refine wpAny_bind (wpAny_mono h (fun u s1 z => ?_) fun _ _ z => z)
  obtain ⟨e, oe, a0, rfl, X, he, hc, hd, hE⟩ := z
  have cC := X _ _ lk
  obtain ⟨hp, g, d, tk, os⟩ := s1
  obtain ⟨oc, odi, oda, osl⟩ := oe
  dsimp only at hc hd
  subst hc hd
  repeat (first
    | with_reducible refine wpAny_loadPart_at he ?_
    | with_reducible refine wpAny_loadPart_at cC ?_
    | (with_reducible refine wpAny_isSubtype_exc cC ?_; rw [hB])
    | wp_step)
  exact wpAny_raiseNew_none hh hE
/-- an exception that was just made leaves as E wants -/
theorem XIn.fresh {E : XS} {σ : St} {H1 H2 : Hp} {s1 s2 : Shared} {pins : List (Addr × Obj)} {e : Addr} {dx : Option Addr} (I1 : Inv X pins σ H1 s1) (I2 : Inv X pins σ H2 s2) (le : s1.heap.objs.size ≤ e) (hx : H2 e = some (xO true (.ref C) dx e)) (hE : E (.ref C) dx σ (del H2 e)) : XIn X E (.ref e) s2 := by
  obtain ⟨⟨oe, vs, g1, g2, g3, g4, g5⟩, _⟩ := (show ObjOk X.prog X.w H2 s2.heap e (xO true (.ref C) dx e) from I2.hok e _ hx)
  obtain ⟨a0, rfl⟩ := g5 rfl
  refine ⟨e, .ref C, dx, σ, del H2 e, rfl, (I2.untrack hx).pins_of fun p hp => absurd hp (by simp), ⟨del_same, Nat.le_trans I1.sz le, Nat.ne_of_gt (Nat.lt_of_lt_of_le I1.lt le), fun y c q z => ?_, fun p hp z => ?_⟩, .inl ⟨rfl, oe, _, g1, g2, g3, g4, rfl⟩, hE⟩
  · obtain ⟨v, q⟩ := I1.cell y c q
    exact absurd (Nat.lt_of_lt_of_le q.lt (by rw [z]; exact le)) (Nat.lt_irrefl _)
  · exact absurd (Nat.lt_of_lt_of_le (Heap.lt_size (I1.pin p (List.mem_append_left _ hp)).1) (by rw [z]; exact le)) (Nat.lt_irrefl _)
def tRaise (C : Addr) (sp : Sp) (E : XS) (t : TA) : TS := fun _ σ H => t σ H fun vs H1 => vs.length ≤ sizeLine ∧ ∀ e, H1 e = none → sp (.ref e :: vs) (upd H1 e (xO true (.ref C) none e)) (fun v H2 => v = .non ∧ ∃ dx, H2 e = some (xO true (.ref C) dx e) ∧ E (.ref C) dx σ (del H2 e)) E0
theorem ps_raise {E : XS} (hc : X.calm = true) (c : XC X.K C bm) (M : XMk X.prog X.w X.K X.mg X.base C k sp) (hr : Room (k + 1) X.A) (hm : X.mg x = some (.ref C)) (ha : PA (X.raises E) (e :: es) t) (hg : Gl X x := by rfl)
    (hdb : (x == ("__debug__" : Str)) = false := by decide) (he : starEach (e :: es) X.env = (false, eval e X.env) :: starEach es X.env := by rfl) (hpl : (backTo pos (starEach es X.env)).any (·.1) = false := by rfl) :
    PS (X.raises E) (.Raise (some (.Call (.Name x p) (e :: es) [] pos)) none rpos) (tRaise C sp E t) := by
  intro pins s σ H D I h
  rw [arm_exec_Raise]
  refine wpAny_bind (wpAny_standAt ?_)
  refine x_raise (K := X.K) (I.ok.hd hc) c (wpAny_bind (ev_exc (X := X.raises E) c hg hm ha I h (fun us vs s1 H1 I1 r ⟨z, q⟩ _ => thn (run_x (X := X.raises E) (Q := fun e H2 => ∃ dx, H2 e = some (xO true (.ref C) dx e) ∧ E (.ref C) dx σ (del H2 e)) c M hr I1 r z q) fun u s2 ⟨e2, H2, eu, le, I2, dx, hx, hE⟩ => ?_) hdb he hpl))
  subst eu
  obtain ⟨⟨oe, vs', g1, g2, g3, g4, g5⟩, _⟩ := (show ObjOk X.prog X.w H2 s2.heap e2 (xO true (.ref C) dx e2) from I2.hok e2 _ hx)
  obtain ⟨a0, rfl⟩ := g5 rfl
  exact wpAny_bind (wpAny_standAt (wpAny_pure ⟨e2, oe, a0, rfl, I2.kIn, g1, g2, g4, XIn.fresh I1.unwish I2.unwish le hx hE⟩))
end
/-! ### a call of what a local name holds, which may raise -/
section
variable {X : Cx} {E : XS} {k : Nat} {Fam : Addr → Sp → Prop} {x : Str} {p pos : Pos} {e : Expr} {es : List Expr} {tf : TE} {t : TA}
end
end L2

set_option Elab.async false
set_option linter.all false
set_option maxRecDepth 100000
set_option maxHeartbeats 1000000
namespace L2
open PySem PySem.Spec PyProof.Rows
theorem pe_xf {X : Cx} {K : PySem.W.Frag} {e : Expr} {f : Str} {pos : Pos} {ta : TE} (he : PE X e ta) (hK : X.K = K := by rfl) (hb : attributeBase e f X.env (eval e X.env) = eval e X.env := by rfl) : PE X (.Attribute e f pos) (tXFld K ta f) := hK ▸ pe_xfld he hb
section
variable {P : Program} {w : World} {K : PySem.W.Frag} {mg : Str → Option Value} {base : Heap}
/-- a def that may raise, where it does not -/
theorem FnOk.hush {f : Addr} {fd : FuncData} {ps : List Str} {k : Nat} {sp sp' : Sp} (F : FnOk P w K mg base (CXF P w) k f fd ps sp) (h : ∀ vs H Q E, sp' vs H Q E → sp vs H Q E0) : FnOk P w K mg base CX0 k f fd ps sp' :=
  ⟨fun vs H Q E q => F.len vs H Q E0 (h _ _ _ _ q), fun A outer s H args us vs Q E hr he hb hv hs => codeAny_mono (F.run A outer s H args us vs Q E0 hr he hb hv (h _ _ _ _ hs)) fun r s' z => by
    cases r with
    | error e =>
      obtain ⟨_, _, _, _, _, _, _, _, _, _, _, _, _, _, _, _, _, q⟩ := z
      exact q.elim
    | ok fl => cases fl <;> exact z⟩
end
end L2

set_option Elab.async false
set_option linter.all false
set_option maxRecDepth 100000
set_option maxHeartbeats 1000000
namespace L2
open PySem PySem.Spec PyProof.Rows
/-! ### a text (ASCII), sign by sign -/
section
variable {X : Cx} {tg : Expr}
end
end L2

set_option Elab.async false
set_option linter.all false
set_option maxRecDepth 100000
set_option maxHeartbeats 4000000
namespace L2
open PySem PySem.Spec PyProof.Rows PySem.Builtin.Str
variable {X : Cx}
theorem bt_max : bootBuiltins "max" = some (.builtin "max") := by decide +kernel
theorem bt_min : bootBuiltins "min" = some (.builtin "min") := by decide +kernel
end L2

set_option Elab.async false
set_option linter.all false
set_option maxRecDepth 100000
set_option maxHeartbeats 4000000
namespace L2
open PySem PySem.Spec PyProof.Rows PySem.Builtin.Str
variable {X : Cx}
end L2

set_option Elab.async false
set_option linter.all false
set_option maxRecDepth 100000
set_option maxHeartbeats 4000000
namespace L2
open PySem PySem.Spec PyProof.Rows PySem.Builtin.Str
variable {X : Cx}
end L2

set_option Elab.async false
set_option linter.all false
set_option maxRecDepth 100000
set_option maxHeartbeats 4000000
namespace L2
open PySem PySem.Spec PyProof.Rows
/-- held shut, so that nothing is reckoned within it -/
structure Wr (p : Prop) : Prop where
  un : p
section
variable {X : Cx} {e : Expr} {es : List Expr} {te : TE} {t : TA} {pos : Pos} {a b : Expr} {ta tb : TE}
theorem w_nil : Wr (PA X [] tNil) := ⟨pa_nil⟩
theorem w_cons (ha : Wr (PE X e te)) (hr : Wr (PA X es t)) (hs : starEach (e :: es) X.env = (false, eval e X.env) :: starEach es X.env := by rfl) : Wr (PA X (e :: es) (tCons te t)) := ⟨pa_cons ha.un hr.un hs⟩
theorem w_lst (h : Wr (PA X es t)) : Wr (PE X (.List es pos) (tLst t)) := ⟨pe_lst h.un⟩
theorem w_set {i : Nat} {x : Str} {pos' : Pos} (hN : X.N.Nodup) (hi : X.N[i]? = some x) (hx : Loc X.env.scope x) (he : Wr (PE X e te)) (hs : swapsWith e (some (.Name x pos')) pos.line X.env = pure false := by rfl) (hf : X.fn x = true ∨ X.env.scope.names.lookup x = some .local := by first | exact .inl rfl | exact .inr rfl | assumption) :
    Wr (PS X (.Assign [.Name x pos'] e pos) (tAsg te (gName i))) := ⟨ps_set hN hi hx he.un hs hf⟩
theorem wss_cons {st : Stmt} {rest : List Stmt} {t u : TS} (h1 : Wr (PS X st t)) (h2 : Wr (PSs X rest u)) : Wr (PSs X (st :: rest) (tSeq t u)) := ⟨pss_cons h1.un h2.un⟩
theorem wss_one {st : Stmt} {t : TS} (h1 : Wr (PS X st t)) : Wr (PSs X [st] t) := ⟨pss_one h1.un⟩
end
section
variable {P : Program} {w : World} {K : PySem.W.Frag} {mg : Str → Option Value} {base : Heap}
theorem Fun.okW {x qual : Str} {st : Stmt} {f : Addr} {fd : FuncData} {N ps : List Str} {k : Nat} {sp : Sp} (F : Fun K x qual st f fd) (S : FnScope N ps (defScope st)) (len : ∀ vs H Q E, sp vs H Q E → vs.length = ps.length)
    (hb : ∀ (cdv : Value) (A : Around) (outer : List Env) (s : Shared) (H : Hp) (vs : List V) (Q : VK) (E : XK), Room k (A.deeper (envOfC qual (defScope st) s.heap.objs.size f cdv)) → sp vs H Q E →
      ∃ t, Wr (PSs (cxOf CX0 P w K mg base N qual (defScope st) f cdv A outer s H E).nox (defBody st) t) ∧ t { nx := fun _ H' => Q .non H', rt := Q } (start N vs) H) : FnOk P w K mg base CX0 (k + 1) f fd ps sp :=
  F.ok S len fun cdv A outer s H vs Q E hr h => by
    obtain ⟨t, h1, q⟩ := hb cdv A outer s H vs Q E hr h
    exact ⟨t, h1.un, q⟩
end
end L2

set_option Elab.async false
set_option linter.all false
set_option maxRecDepth 100000
set_option maxHeartbeats 1000000
namespace L2
open PySem PySem.Spec PyProof.Rows
section
variable {X : Cx}
end
/-! ### enumerate of a tuple -/
section
variable {prog : Program} {w : World} {A : Around} {E : Value → Shared → Prop} {s : Shared}
end
section
variable {X : Cx} {es : List Expr} {kk : Nat} {tpos : Pos}
end
end L2

set_option Elab.async false
set_option linter.all false
set_option maxRecDepth 100000
set_option maxHeartbeats 1000000
namespace HT
open PySem PySem.Spec PyProof.Rows
section
variable {prog : Program} {w : World} {A : Around} {E : Value → Shared → Prop} {s : Shared}
theorem getItem_tuple_whole {t sl : Addr} {items : Array Value} {vl vu : Value} {lo hi : Option Int} {Q : Value → Shared → Prop} (ht : IsTup s.heap t items) (hs : s.heap.IsSliceOf sl vl vu .none) (pl : IsPart vl lo) (pu : IsPart vu hi)
    (h1 : sIx items.size 0 lo = 0) (h2 : sIx items.size items.size hi = items.size)
    (h : Q (.ref t) s) : wpAny (model prog w) A (getItem (.ref t) (.ref sl)) Q E s := by
  obtain ⟨os, hos, hcs, hds⟩ := id hs
  have hTs : s.TypeIs (.ref sl) "slice" := ⟨os, hos, hcs⟩
  unfold getItem
  try with_reducible refine wpAny_holding ?_
  first | refine wpAny_bind (wpAny_pure ?_) | skip
  refine wpAny_bind (wpAny_sequenceKey ht.typeIs (by decide) ?_)
  refine wpAny_bind (wpAny_callSpecial?_slot (name := Str.ofString "__getitem__") ht.typeIs PyProof.Rows.slot_tuple_getitem
    (wpAny_call_entry PyProof.Rows.slot_tuple_getitem ht.typeIs entry_tuple_getitem ?_ (args_tuple_getitem _ _)))
  show wpAny _ _ (Builtin.Tuple.tupleItemsOf (.ref t) >>= _) _ _ s
  refine wpAny_bind (tupleItemsOf_ ht ?_)
  refine wpAny_bind (wpAny_typeOf hTs ?_)
  rw [if_pos (by decide)]
  refine wpAny_bind (sliceApplied_gen hs pl pu ?_)
  have hyes : (((sIx items.size 0 lo : Nat) : Int) == 0 && (1 : Int) == 1 && (sIx items.size items.size hi - sIx items.size 0 lo) == items.size) = true := by
    rw [h1, h2]
    simp
  show wpAny _ _ (if (((sIx items.size 0 lo : Nat) : Int) == 0 && (1 : Int) == 1 && (sIx items.size items.size hi - sIx items.size 0 lo) == items.size) = true then _ else _) _ _ s
  rw [if_pos hyes]
  unfold Builtin.Tuple.tupleIsExact
  refine wpAny_bind (wpAny_bind (wpAny_typeOf ht.typeIs (wpAny_pure ?_)))
  show wpAny _ _ (if (Value.type "tuple" == Value.type "tuple") = true then _ else _) _ _ s
  rw [if_pos (by decide)]
  refine wpAny_bind (wpAny_rule ?_)
  first
    | exact wpAny_pure ⟨_, rfl, wpAny_pure h⟩
    | exact wpAny_bind (wpAny_pure (wpAny_pure ⟨_, rfl, wpAny_pure h⟩))
end
end HT
namespace L2
open PySem PySem.Spec PyProof.Rows
variable {X : Cx}
/-- t[lo:hi], the whole, too -/
theorem sl_tupW : SlR X (fun x lo hi H Q => ∃ a xs, x = .ref a ∧ SqT X.K H a xs ∧
    ((HT.sIx xs.length 0 lo = 0 ∧ HT.sIx xs.length xs.length hi = xs.length) → Q (.ref a) H) ∧ (¬ (HT.sIx xs.length 0 lo = 0 ∧ HT.sIx xs.length xs.length hi = xs.length) → ∀ p, H p = none → Q (.ref p) (upd H p (.tup (cutV xs lo hi))))) := by
  intro pins s σ H x v vl vu lo hi sl Q I rx hs pl pu h
  obtain ⟨a, xs, rfl, hx, q1, q2⟩ := h
  by_cases hw : HT.sIx xs.length 0 lo = 0 ∧ HT.sIx xs.length xs.length hi = xs.length
  · cases rx
    obtain ⟨its, r, ht, hz⟩ := I.tuple hx
    have hlen : its.toArray.size = xs.length := by rw [List.size_toArray]; exact r.length.symm
    refine ⟨"tuple", _, PyProof.Rows.slot_tuple_getitem.lookup, ht.typeIs, ?_⟩
    exact HT.getItem_tuple_whole ht hs pl pu (by rw [hlen]; exact hw.1) (by rw [hlen]; exact hw.2) ⟨.ref a, H, I, rfl, q1 hw⟩
  · exact sl_tup pins s σ H _ v vl vu lo hi sl Q I rx hs pl pu ⟨a, xs, rfl, hx, hw, q2 hw⟩
end L2

set_option Elab.async false
set_option linter.all false
set_option maxRecDepth 100000
set_option maxHeartbeats 1000000
namespace L2
open PySem PySem.Spec PyProof.Rows
/-! ### sorting by whatever order: what a state of the sort needs, said once -/
section
variable {O : KeyOrd}
def Up (f : Nat → O.α) (n : Nat) : Prop := ∀ i j, i ≤ j → j < n → O.kle (f i) (f j)
def Dn (f : Nat → O.α) (n : Nat) : Prop := ∀ i j, i ≤ j → j < n → O.kle (f j) (f i)
theorem Up.one (f : Nat → O.α) : Up f 1 := fun i j a b => by
  have e : i = j := by omega
  rw [e]; exact KeyOrd.kle_refl _
theorem Dn.one (f : Nat → O.α) : Dn f 1 := fun i j a b => by
  have e : i = j := by omega
  rw [e]; exact KeyOrd.kle_refl _
theorem Up.snoc {f : Nat → O.α} {n : Nat} (u : Up f n) (h : O.kle (f (n - 1)) (f n)) : Up f (n + 1) := fun i j a b => by
  rcases Nat.lt_or_ge j n with c | c
  · exact u i j a c
  have ej : j = n := by omega
  rw [ej]
  rcases Nat.lt_or_ge i n with c2 | c2
  · exact KeyOrd.kle_trans (u i (n - 1) (by omega) (by omega)) h
  · have ei : i = n := by omega
    rw [ei]; exact KeyOrd.kle_refl _
theorem Dn.snoc {f : Nat → O.α} {n : Nat} (u : Dn f n) (h : O.kle (f n) (f (n - 1))) : Dn f (n + 1) := fun i j a b => by
  rcases Nat.lt_or_ge j n with c | c
  · exact u i j a c
  have ej : j = n := by omega
  rw [ej]
  rcases Nat.lt_or_ge i n with c2 | c2
  · exact KeyOrd.kle_trans h (u i (n - 1) (by omega) (by omega))
  · have ei : i = n := by omega
    rw [ei]; exact KeyOrd.kle_refl _
theorem Dn.congr {f g : Nat → O.α} {n : Nat} (u : Dn f n) (h : ∀ i, g i = f i) : Dn g n := fun i j a b => by rw [h, h]; exact u i j a b
end
section
variable {O : KeyOrd} (κ : Keyed → O.α) (d : O.α)
def fk (xs : Array Keyed) (i : Nat) : O.α := match xs[i]? with
  | some p => κ p
  | none => d
theorem fk_eq {xs ys : Array Keyed} {i j : Nat} (h : xs[i]? = ys[j]?) : fk κ d xs i = fk κ d ys j := by unfold fk; rw [h]
theorem fk_turn {xs : Array Keyed} {i j : Nat} (hj : j ≤ xs.size) (k : Nat) : fk κ d (mirror xs i j ((j - i) / 2)) k = if i ≤ k ∧ k < j then fk κ d xs (i + j - 1 - k) else fk κ d xs k := by
  have e := getElem?_mirror_all (i := i) hj k
  split at e
  · rename_i c; rw [if_pos c]; exact fk_eq κ d e
  · rename_i c; rw [if_neg c]; exact fk_eq κ d e
theorem fk_down {xs : Array Keyed} {a b : Nat} (ha : a < xs.size) (hb : b ≤ a) (k : Nat) : fk κ d (bubble xs a b) k = if k = a - b then fk κ d xs a else if a - b < k ∧ k ≤ a then fk κ d xs (k - 1) else fk κ d xs k := by
  have e := getElem?_bubble ha b hb k
  split at e
  · rename_i c; rw [if_pos c]; exact fk_eq κ d e
  · rename_i c
    rw [if_neg c]
    split at e
    · rename_i c2; rw [if_pos c2]; exact fk_eq κ d e
    · rename_i c2; rw [if_neg c2]; exact fk_eq κ d e
end
section
variable {prog : Program} {w : World} {A : Around} {E : Value → Shared → Prop} {s : Shared} {O : KeyOrd} {κ : Keyed → O.α} {d : O.α} {n : Nat} {Bs : SortSt → Prop}
end
end L2

set_option Elab.async false
set_option linter.all false
set_option maxRecDepth 100000
set_option maxHeartbeats 1000000
namespace L2
open PySem PySem.Spec PyProof.Rows
section
variable {prog : Program} {w : World} {A : Around} {E : Value → Shared → Prop} {s : Shared} {O : KeyOrd} {κ : Keyed → O.α} {d : O.α} {kd : SortKind} {a0 : Array Keyed}
end
/-! ### keys that are tuples of ints -/
section
variable {prog : Program} {w : World} {A : Around} {E : Value → Shared → Prop} {s : Shared}
end
end L2

set_option Elab.async false
set_option linter.all false
set_option maxRecDepth 100000
set_option maxHeartbeats 1000000
namespace L2
open PySem PySem.Spec PyProof.Rows
section
variable {prog : Program} {w : World} {A : Around} {E : Value → Shared → Prop} {s : Shared}
end
end L2

set_option Elab.async false
set_option linter.all false
set_option maxRecDepth 100000
set_option maxHeartbeats 1000000
namespace L2
open PySem PySem.Spec PyProof.Rows
end L2

set_option Elab.async false
set_option linter.all false
set_option maxRecDepth 100000
set_option maxHeartbeats 1000000
namespace L2
open PySem PySem.Spec PyProof.Rows
section
variable {X : Cx} {k : Nat} {f : Addr} {fd : FuncData} {ps : List Str} {sp : Sp}
end
section
variable {prog : Program} {w : World} {A : Around} {E : Value → Shared → Prop} {s : Shared}
open Classical in
end
end L2

set_option Elab.async false
set_option linter.all false
set_option maxRecDepth 100000
set_option maxHeartbeats 1000000
namespace L2
open PySem PySem.Spec PyProof.Rows
section
variable {X : Cx} {k : Nat} {f : Addr} {fd : FuncData} {ps : List Str} {sp : Sp}
end
end L2

set_option Elab.async false
set_option linter.all false
set_option maxRecDepth 100000
set_option maxHeartbeats 1000000
namespace L2
open PySem PySem.Spec PyProof.Rows
theorem bt_sorted : bootBuiltins "sorted" = some (.builtin "sorted") := by decide +kernel
section
variable {X : Cx} {k : Nat} {f : Addr} {fd : FuncData} {ps : List Str} {sp : Sp}
end
end L2

set_option Elab.async false
set_option linter.all false
set_option maxRecDepth 100000
set_option maxHeartbeats 1000000
namespace HT
open PySem PySem.Spec PyProof.Rows
theorem adj_rev (n : Nat) : Builtin.Slice.sliceAdjust none none (-1) (n : Int) = ((n : Int) - 1, -1) := by
  unfold Builtin.Slice.sliceAdjust
  rfl
theorem places_rev (n : Nat) : Builtin.Slice.slicePlaces ((n : Int) - 1) (-1) (-1) = n := by
  unfold Builtin.Slice.slicePlaces
  simp
  omega
theorem fm_congr {α β : Type} {f g : α → Option β} : ∀ {l : List α}, (∀ x ∈ l, f x = g x) → l.filterMap f = l.filterMap g
  | [], _ => rfl
  | a :: r, h => by
    rw [List.filterMap_cons, List.filterMap_cons, h a (List.mem_cons_self ..), fm_congr fun x hx => h x (List.mem_cons_of_mem _ hx)]
theorem pick_rev (xs : List Value) : ((List.range xs.length).filterMap fun (m : Nat) => xs.toArray[(((xs.length : Int) - 1) + (m : Int) * (-1)).toNat]?).toArray = xs.reverse.toArray := by
  have e := pick_gen xs.reverse.toArray 0 xs.length
  have e2 : (xs.reverse.toArray.toList.drop 0).take xs.length = xs.reverse := by
    show (xs.reverse.drop 0).take xs.length = xs.reverse
    rw [List.drop_zero, ← List.length_reverse, List.take_length]
  rw [e2] at e
  rw [← e]
  refine congrArg List.toArray (fm_congr fun m hm => ?_)
  have hm' : m < xs.length := List.mem_range.mp hm
  rw [show (((xs.length : Int) - 1) + (m : Int) * (-1)).toNat = xs.length - 1 - m by omega, show ((((0 : Nat) : Int)) + (m : Int) * 1).toNat = m by omega]
  rw [List.getElem?_toArray, List.getElem?_toArray, List.getElem?_reverse hm']
section
variable {prog : Program} {w : World} {A : Around} {E : Value → Shared → Prop} {s : Shared}
theorem sliceApplied_rev {sl : Addr} {vs : Value} {n : Nat} {Q : Int × Int × Nat → Shared → Prop} (hs : s.heap.IsSliceOf sl .none .none vs) (pv : IsPart vs (some (-1))) (h : Q ((n : Int) - 1, -1, n) s) : wpAny (model prog w) A (Builtin.Slice.sliceApplied (.ref sl) (pure (n : Int))) Q E s := by
  obtain ⟨os, hos, hcs, hds⟩ := id hs
  unfold Builtin.Slice.sliceApplied Builtin.Slice.sliceFields
  refine wpAny_bind (wpAny_bind (wpAny_field hos hds (x := .none) rfl (wpAny_bind (wpAny_field hos hds (x := .none) rfl (wpAny_bind (wpAny_field hos hds (x := vs) rfl (wpAny_pure ?_)))))))
  refine wpAny_bind (slicePart_ pv ?_)
  show wpAny _ _ (if ((-1 : Int) == 0) = true then _ else _) _ _ s
  rw [if_neg (by decide)]
  refine wpAny_bind (slicePart_none (wpAny_bind (slicePart_none (wpAny_bind (wpAny_pure ?_)))))
  show wpAny _ _ (match Builtin.Slice.sliceAdjust none none (-1) (n : Int) with | (lo, hi) => pure (lo, (-1 : Int), Builtin.Slice.slicePlaces lo hi (-1))) _ _ s
  rw [adj_rev n]
  show wpAny _ _ (pure ((n : Int) - 1, (-1 : Int), Builtin.Slice.slicePlaces ((n : Int) - 1) (-1) (-1))) _ _ s
  rw [places_rev]
  exact wpAny_pure h
theorem getItem_tuple_rev {t sl : Addr} {us : List Value} {vs : Value} {Q : Value → Shared → Prop} (ht : IsTup s.heap t us.toArray) (hs : s.heap.IsSliceOf sl .none .none vs) (pv : IsPart vs (some (-1)))
    (h : Q (.ref s.heap.objs.size) { s with heap := s.heap.push { cls := .type "tuple", data := .seq us.reverse.toArray } }) (hsz : us.length ≤ sizeLine) : wpAny (model prog w) A (getItem (.ref t) (.ref sl)) Q E s := by
  obtain ⟨os, hos, hcs, hds⟩ := id hs
  have hTs : s.TypeIs (.ref sl) "slice" := ⟨os, hos, hcs⟩
  unfold getItem
  try with_reducible refine wpAny_holding ?_
  first | refine wpAny_bind (wpAny_pure ?_) | skip
  refine wpAny_bind (wpAny_sequenceKey ht.typeIs (by decide) ?_)
  refine wpAny_bind (wpAny_callSpecial?_slot (name := Str.ofString "__getitem__") ht.typeIs PyProof.Rows.slot_tuple_getitem
    (wpAny_call_entry PyProof.Rows.slot_tuple_getitem ht.typeIs entry_tuple_getitem ?_ (args_tuple_getitem _ _)))
  show wpAny _ _ (Builtin.Tuple.tupleItemsOf (.ref t) >>= _) _ _ s
  refine wpAny_bind (tupleItemsOf_ ht ?_)
  refine wpAny_bind (wpAny_typeOf hTs ?_)
  rw [if_pos (by decide)]
  rw [show us.toArray.size = us.length from List.size_toArray ..]
  refine wpAny_bind (sliceApplied_rev hs pv ?_)
  show wpAny _ _ (if (((us.length : Int) - 1) == 0 && (-1 : Int) == 1 && us.length == us.length) = true then _ else _) _ _ s
  rw [if_neg (by simp), pick_rev]
  have hk : sizeOk (.seq us.reverse.toArray) := by show us.reverse.toArray.size ≤ sizeLine; rw [List.size_toArray, List.length_reverse]; exact hsz
  first
    | exact wpAny_bind (m := Builtin.Tuple.tupleExact _) (wpAny_newObj_type (wpAny_pure ⟨_, rfl, wpAny_pure h⟩) hk)
    | exact wpAny_bind (m := Builtin.Tuple.tupleExact _) (wpAny_newObj_type (wpAny_bind (wpAny_pure (wpAny_pure ⟨_, rfl, wpAny_pure h⟩))) hk)
    | exact wpAny_bind (wpAny_bind (m := Builtin.Tuple.tupleExact _) (wpAny_newObj_type (wpAny_pure (wpAny_pure ⟨_, rfl, wpAny_pure h⟩)) hk))
    | exact wpAny_bind (wpAny_bind (m := Builtin.Tuple.tupleExact _) (wpAny_newObj_type (wpAny_pure ⟨_, rfl, wpAny_pure h⟩) hk))
end
end HT
namespace L2
open PySem PySem.Spec PyProof.Rows
variable {X : Cx}
/-- t[::-1] of a tuple -/
theorem pe_revT {e : Expr} {te : TE} {j} {p2 p3 p4 pos : Pos} (he : PE X e te) : PE X (.Subscript e (.Slice none none (some (.UnaryOp .USub (.Constant (.int 1) j p3) p4)) p2) pos) (fun σ H Q => te σ H fun x H1 => ∃ a xs, x = .ref a ∧ SqT X.K H1 a xs ∧ ∀ p, H1 p = none → Q (.ref p) (upd H1 p (.tup xs.reverse))) := by
  intro pins s σ H Q I h
  refine Subscript_ (thn (he pins s σ H _ I h) fun v s1 ⟨x, H1, I1, r1, q1⟩ => ?_)
  obtain ⟨a, xs, rfl, hx, q⟩ := q1
  obtain rfl : v = Value.ref a := r1
  refine wpAny_Slice ?_
  rw [evalPart_none]
  refine wpAny_pure (wpAny_pure ?_)
  refine thn (po_some (X := X) (pe_un un_neg pe_int) pins s1 σ H1 (fun o H' => o = some (-1) ∧ H' = H1) I1 ⟨1, rfl, -1, rfl, rfl, rfl⟩) fun vs s2 ⟨o, H2, I2, ip, eo, eH⟩ => ?_
  subst eo eH
  obtain ⟨its, r, ht, hz⟩ := I2.tuple hx
  have hlen := r.length
  have I4 : Inv X pins σ H2 { s2 with heap := s2.heap.push { cls := .type "slice", data := .fields #[.none, .none, vs] } } := I2.kept (t' := s2.toks) fun b ob q => Heap.get?_push_of_some _ q
  obtain ⟨its4, r4, ht4, hz4⟩ := I4.tuple hx
  refine tail_any (ops := [.ref a, .ref s2.heap.objs.size]) ht4.typeIs PyProof.Rows.slot_tuple_getitem.lookup ?_ (by with_unfolding_all rfl)
  refine HT.getItem_tuple_rev ht4 (Heap.IsSliceOf.new ..) ip ?_ (by rw [← r4.length]; exact hz4)
  refine ⟨.ref _, _, I4.laid (t' := s2.toks) (o := .tup xs.reverse) (fun b ob q => Heap.get?_push_of_some _ q) (Nat.le_refl _) ?_, rfl, q _ (I4.hok.fresh (Nat.le_refl _))⟩
  exact ⟨by rw [List.length_reverse]; exact hz, its4.reverse, r4.reverse, IsTup.new _ _⟩
/-- t + u of tuples, empty ones too -/
theorem op_catG : OpR X (binaryOp .Add) (fun x y H Q => ∃ a b xs ys, x = .ref a ∧ y = .ref b ∧ H a = some (.tup xs) ∧ H b = some (.tup ys) ∧ xs.length + ys.length ≤ 1000000 ∧ ∀ p H', Same H H' → H' p = some (.tup (xs ++ ys)) → Q (.ref p) H') := by
  intro pins s σ H x y v u Q I rx ry h
  obtain ⟨a, b, xs, ys, rfl, rfl, ha, hb, hz, q⟩ := h
  have szl := sizeLine_eq
  by_cases hx : xs = []
  · subst hx
    cases rx
    cases ry
    obtain ⟨its, r1, ⟨⟨cls, dd, data, sl⟩, ho, hc, n, hd⟩, _⟩ := I.tuple (SqT.of ha)
    obtain ⟨its2, r2, ⟨⟨cls2, dd2, data2, sl2⟩, ho2, hc2, n2, hd2⟩, _⟩ := I.tuple (SqT.of hb)
    simp only at hc hd hc2 hd2
    subst hc hd hc2 hd2
    have e0 : its = [] := r1.nil_iff.mpr rfl
    exact concat_meets ⟨_, ho, rfl⟩ ⟨_, ho2, rfl⟩ noFill_tuple_add seq_tuple_add PySem.F.slot_tuple_add PySem.F.entry_tuple_add (PySem.F.args_tuple_add_2 _ _)
      (tuple_addW0 a b its.toArray its2.toArray n n2 dd dd2 sl sl2 (by simp [e0])) ⟨ho, ho2, ⟨.ref b, H, I, rfl, q b H (Same.refl H) hb⟩⟩
  · exact op_catT pins s σ H _ _ v u Q I rx ry ⟨a, b, xs, ys, rfl, rfl, SqT.of ha, SqT.of hb, hx, by omega, (fun e => q a H (Same.refl H) (by rw [e, List.append_nil]; exact ha)), fun _ p hp => q p _ (fun c o e => by rw [upd_ne (ne_of_none e hp)]; exact e) upd_same⟩
end L2

set_option Elab.async false
set_option linter.all false
set_option maxRecDepth 100000
set_option maxHeartbeats 4000000
namespace L2
open PySem PySem.Spec PyProof.Rows
variable {X : Cx}
theorem take_sum_all (ns : List Int) : ∀ (n : Nat), n = ns.length → preSum (fun i => ns.getD i 0) n = ns.sum := by
  intro n hn
  have key : ∀ m, m ≤ ns.length → preSum (fun i => ns.getD i 0) m = (ns.take m).sum := by
    intro m
    induction m with
    | zero => intro _; rfl
    | succ k ih =>
      intro hk
      show preSum (fun i => ns.getD i 0) k + ns.getD k 0 = _
      rw [ih (by omega), List.take_add_one, List.sum_append]
      have : ns[k]? = some (ns.getD k 0) := by
        rw [List.getD_eq_getElem?_getD, List.getElem?_eq_getElem (by omega)]; rfl
      rw [this]
      simp
  rw [key n (by omega), hn, List.take_length]
/-! sum of a tuple of ints -/
theorem call_sumT (hc : X.calm = true) : CallR X (.builtin "sum") (fun xs H Q => ∃ (p : Addr) (ns : List Int), xs = [.ref p] ∧ SqT X.K H p (ns.map V.int) ∧ Q (.int ns.sum) H) := by
  intro pins s σ H xs us Q I r h
  obtain ⟨p, ns, rfl, hS, q⟩ := h
  obtain ⟨u, rfl, rx⟩ := vals1 r
  obtain rfl : u = Value.ref p := rx
  obtain ⟨its, rv, pl, hz⟩ := I.tuple hS
  have hp : s.heap.IsTuple p its.toArray := pl
  have hlt : p < s.heap.objs.size := pl.lt
  refine call_sum_walkG (wpAny_pyIter_tuple hp ?_)
  refine ⟨_, _, _, _, _, _, fun i => ns.getD i 0, rfl, Walks.tuple (A := X.A.in1) (I.ok.hd hc) s.heap.objs.size p (Nat.ne_of_lt hlt) its.toArray, ⟨⟨_, Heap.get?_push_size _ rfl, rfl, rfl⟩, hp.push _⟩, fun b hb => ?_, fun i v hv => ?_, fun h' tk t' hk => ?_⟩
  · show b < (s.heap.push _).objs.size
    rw [Heap.size_push]
    rcases List.mem_cons.mp hb with rfl | hb
    · exact Nat.lt_succ_self _
    · rcases List.mem_cons.mp hb with rfl | hb
      · exact Nat.lt_succ_of_lt hlt
      · cases hb
  · have hv' : its[i]? = some v := by simpa using hv
    have hlen := rv.length
    have hi : i < (ns.map V.int).length := by rw [hlen]; exact (List.getElem?_eq_some_iff.mp hv').1
    obtain ⟨u, e1, r1⟩ := rv.get (i := i) (x := .int (ns.getD i 0)) (by
      rw [List.length_map] at hi
      rw [List.getElem?_map, List.getD_eq_getElem?_getD, List.getElem?_eq_getElem hi]; rfl)
    rw [hv'] at e1
    cases e1
    exact r1
  · refine ⟨.int ns.sum, H, I.kept fun b o e => hk b o (fun z => ?_) (Heap.get?_push_of_some _ e), ⟨t', ?_⟩, q⟩
    · exact absurd (Heap.lt_size e) (by rw [List.mem_singleton.mp z]; exact Nat.lt_irrefl _)
    · rw [take_sum_all ns _ (by have := rv.length; simp at this ⊢; omega)]
/-! a range as a value, and the tuple of it -/
end L2

namespace HT
open PySem PySem.Spec PyProof.Rows
section
variable {prog : Program} {w : World} {A : Around} {E : Value → Shared → Prop} {s : Shared}
end
end HT
namespace L2
open PySem PySem.Spec PyProof.Rows
variable {X : Cx}
end L2
namespace L2
open PySem PySem.Spec PyProof.Rows
/-- t[lo:hi], the whole or not: something that is that tuple from now on -/
theorem sl_tupS {X : Cx} : SlR X (fun x lo hi H Q => ∃ a xs, x = .ref a ∧ (∀ H', Same H H' → SqT X.K H' a xs) ∧ ∀ p H', Same H H' → (∀ H'', Same H' H'' → SqT X.K H'' p (cutV xs lo hi)) → Q (.ref p) H') := by
  intro pins s σ H x v vl vu lo hi sl Q I rx hs pl pu h
  obtain ⟨a, xs, rfl, hx, q⟩ := h
  refine sl_tupW pins s σ H _ v vl vu lo hi sl Q I rx hs pl pu ⟨a, xs, rfl, hx H (fun _ _ e => e), fun hw => q a H (fun _ _ e => e) fun H'' s'' => ?_, fun hw p hp => q p _ (fun b o e => by rw [upd_ne (ne_of_none e hp)]; exact e) fun H'' s'' => SqT.of (s'' _ _ upd_same)⟩
  have e : cutV xs lo hi = xs := by
    unfold cutV
    rw [hw.1, hw.2, List.drop_zero, Nat.sub_zero, List.take_length]
  rw [e]
  exact hx H'' s''
end L2

set_option Elab.async false
set_option linter.all false
set_option maxRecDepth 100000
namespace Law
open PySem L2

theorem Same.new {H : Hp} {p : Addr} {o : HO} (h : H p = none) : Same H (L2.upd H p o) := fun b u q => by rw [upd_ne (ne_of_none q h)]; exact q

/-- tuples stay -/
def KT (H H' : Hp) : Prop := ∀ p xs, H p = some (.tup xs) → H' p = some (.tup xs)
theorem KT.same {H H' : Hp} (a : Same H H') : KT H H' := fun p xs h => a p _ h
/-! the deck of drawn cells -/
theorem atI_mem {α : Type} {xs : List α} {r : Int} (h0 : 0 ≤ r) (h1 : r < (xs.length : Int)) : ∃ v, atI xs r = some v ∧ v ∈ xs := by
  have hl : r.toNat < xs.length := by omega
  have e : r = ((r.toNat : Nat) : Int) := by omega
  have h : atI xs ((r.toNat : Nat) : Int) = some xs[r.toNat] := atI_nat (List.getElem?_eq_getElem hl)
  rw [← e] at h
  exact ⟨xs[r.toNat], h, List.getElem_mem hl⟩
/-- the names of Python's own that the text asks -/
structure Blt (mg : Str → Option Value) : Prop where
  len : mg "len" = none
  sum : mg "sum" = none
  range : mg "range" = none
  isinstance : mg "isinstance" = none
  int : mg "int" = none
  str : mg "str" = none
  bool : mg "bool" = none
  tuple : mg "tuple" = none
  zip : mg "zip" = none
end Law

set_option Elab.async false
set_option linter.all false
set_option maxRecDepth 100000
namespace Law
open PySem L2

/-! in the heap -/
/-! the steps of a way -/
/-! promises of the defs -/
/-- the law: a list of at most 63 ints is handed in, True comes out -/
def spLaw (K : PySem.W.Frag) : Sp := fun vs H Q _ => ∃ (a : Addr) (ns : List Int), vs = [.ref a] ∧ SqL K H a (ns.map V.int) ∧ ns.length ≤ 63 ∧ ∀ H', Q (.bl true) H'
theorem mkDef {P : Program} {w : World} {K : PySem.W.Frag} {mg : Str → Option Value} {base : Heap} {CX : CXT} {k : Nat} {x : Str} {sp : Sp} {f : Addr} {fd : FuncData} {ps : List Str} (a : FnOk P w K mg base CX k f fd ps sp) (b : Binds K fd ps []) (c : mg x = some (.ref f)) (d : PySem.W.keepIn K (.ref f) = true) : Def P w K mg base CX k x sp := ⟨f, fd, ps, a, b, c, d⟩

end Law

set_option Elab.async false
set_option linter.all false
set_option maxRecDepth 100000
namespace L2
open PySem PySem.Spec PyProof.Rows
end L2
namespace Law
open PySem L2 PySem.NumText PyProof.Rows

/-! texts of ways -/
/-! way_shown's pile -/
/-! read_way's pile -/
/-! a way as plain data -/
/-! promises -/
end Law

set_option Elab.async false
set_option linter.all false
set_option maxRecDepth 100000
set_option maxHeartbeats 1000000
namespace Law
open PySem L2 PySem.NumText PyProof.Rows
/-! signs between numbers -/
def chs (sg : List Str) : Nat → List (List Str)
  | 0 => [[]]
  | k + 1 => (chs sg k).flatMap fun ss => sg.map fun s => ss ++ [s]
theorem chs_len (sg : List Str) : ∀ (k : Nat) (ss : List Str), ss ∈ chs sg k → ss.length = k
  | 0, ss, h => by
    have : ss = [] := by simpa [chs] using h
    rw [this]; rfl
  | k + 1, ss, h => by
    obtain ⟨t, ht, h2⟩ := List.mem_flatMap.mp h
    obtain ⟨s, _, rfl⟩ := List.mem_map.mp h2
    rw [List.length_append, chs_len sg k t ht]; rfl
theorem chs_mem (sg : List Str) : ∀ (k : Nat) (ss : List Str), ss ∈ chs sg k → ∀ s ∈ ss, s ∈ sg
  | 0, ss, h => by
    have : ss = [] := by simpa [chs] using h
    rw [this]; intro s hs; cases hs
  | k + 1, ss, h => by
    obtain ⟨t, ht, h2⟩ := List.mem_flatMap.mp h
    obtain ⟨s, hs, rfl⟩ := List.mem_map.mp h2
    intro u hu
    rcases List.mem_append.mp hu with hu | hu
    · exact chs_mem sg k t ht u hu
    · rw [List.mem_singleton.mp hu]; exact hs
theorem fm_len {α β : Type} (f : α → List β) (m : Nat) : ∀ l : List α, (∀ x ∈ l, (f x).length = m) → (l.flatMap f).length = l.length * m
  | [], _ => by simp
  | x :: r, h => by
    rw [List.flatMap_cons, List.length_append, h x (List.mem_cons_self ..), fm_len f m r (fun y hy => h y (List.mem_cons_of_mem _ hy)), List.length_cons, Nat.succ_mul, Nat.add_comm]
theorem chs_length (sg : List Str) : ∀ k : Nat, (chs sg k).length = sg.length ^ k
  | 0 => rfl
  | k + 1 => by
    show ((chs sg k).flatMap _).length = _
    rw [fm_len _ sg.length _ (fun x _ => by rw [List.length_map]), chs_length sg k, Nat.pow_succ]
/-! figures put together -/
/-! in the heap -/
def Put (H : Hp) (v : V) (ss : List Str) : Prop := ∃ q, v = .ref q ∧ H q = some (.tup (ss.map V.str))
theorem Put.kt {H H' : Hp} {v : V} {ss : List Str} (k : KT H H') (h : Put H v ss) : Put H' v ss := by
  obtain ⟨q, e, h⟩ := h
  exact ⟨q, e, k _ _ h⟩
theorem pr_get {α β : Type} {R : α → β → Prop} : ∀ {a : List α} {b : List β} {i : Nat} {x : α}, Paired R a b → a[i]? = some x → ∃ y, b[i]? = some y ∧ R x y
  | _, _, _, _, .nil, e => by simp at e
  | _, _, 0, _, .cons p r, e => by simp at e; subst e; exact ⟨_, rfl, p⟩
  | _, _, i + 1, x, .cons p r, e => by
    obtain ⟨y, h1, h2⟩ := pr_get (i := i) (x := x) r (by simpa using e)
    exact ⟨y, by simpa using h1, h2⟩
theorem pr_get2 {α β : Type} {R : α → β → Prop} : ∀ {a : List α} {b : List β} {i : Nat} {y : β}, Paired R a b → b[i]? = some y → ∃ x, a[i]? = some x ∧ R x y
  | _, _, _, _, .nil, e => by simp at e
  | _, _, 0, _, .cons p r, e => by simp at e; subst e; exact ⟨_, rfl, p⟩
  | _, _, i + 1, x, .cons p r, e => by
    obtain ⟨y, h1, h2⟩ := pr_get2 (i := i) (y := x) r (by simpa using e)
    exact ⟨y, by simpa using h1, h2⟩
theorem take_snoc {α : Type} {l : List α} {i : Nat} {x : α} (h : l[i]? = some x) : l.take (i + 1) = l.take i ++ [x] := by
  rw [List.take_add_one, h]; rfl
end Law

set_option Elab.async false
set_option linter.all false
set_option maxRecDepth 100000
set_option maxHeartbeats 1000000
namespace L2
open PySem PySem.Spec PyProof.Rows

/-! ### lists of pairs as tables -/
section
variable {κ : Type} [DecidableEq κ]
def valV (kvs : List (κ × V)) (k : κ) : Option V := (kvs.find? fun kv => decide (kv.1 = k)).map (·.2)
/-- in its place, or at the end -/
def putK (kvs : List (κ × V)) (k : κ) (v : V) : List (κ × V) :=
  if (kvs.any fun kv => decide (kv.1 = k)) = true then kvs.map (fun kv => if kv.1 = k then (kv.1, v) else kv) else kvs ++ [(k, v)]
theorem valV_pos {p : κ × V} {r : List (κ × V)} {k : κ} (e : p.1 = k) : valV (p :: r) k = some p.2 := by simp [valV, List.find?_cons, e]
theorem valV_neg {p : κ × V} {r : List (κ × V)} {k : κ} (e : ¬ p.1 = k) : valV (p :: r) k = valV r k := by simp [valV, List.find?_cons, e]
theorem valV_any (k : κ) : ∀ kvs : List (κ × V), (kvs.any fun kv => decide (kv.1 = k)) = (valV kvs k).isSome
  | [] => rfl
  | p :: r => by
    rw [List.any_cons]
    by_cases e : p.1 = k
    · simp only [valV_pos e, decide_eq_true e, Bool.true_or, Option.isSome_some]
    · rw [valV_neg e, decide_eq_false e, Bool.false_or]; exact valV_any k r
theorem length_putK (kvs : List (κ × V)) (k : κ) (v : V) : (putK kvs k v).length ≤ kvs.length + 1 := by
  unfold putK
  split
  · rw [List.length_map]; omega
  · rw [List.length_append, List.length_cons, List.length_nil]; omega
theorem RelO.isSome_eq {o : Option V} {u : Option Value} (r : RelO o u) : o.isSome = u.isSome := by
  cases o with
  | none => cases u with
    | none => rfl
    | some _ => exact (show False from r).elim
  | some _ => cases u with
    | none => exact (show False from r).elim
    | some _ => rfl
theorem RelO.getD {o : Option V} {u : Option Value} {d : V} {d' : Value} (r : RelO o u) (rd : RelV d d') : RelV (o.getD d) (u.getD d') := by
  cases o with
  | none => cases u with
    | none => exact rd
    | some _ => exact (show False from r).elim
  | some _ => cases u with
    | none => exact (show False from r).elim
    | some _ => exact r

/-- raw tables of the same keys -/
theorem KV.val {kvs : List (κ × V)} {vs : List (κ × Value)} (r : KV kvs vs) (k : κ) : RelO (valV kvs k) (valueAt vs k) := by
  unfold KV at r
  induction r with
  | nil => exact True.intro
  | @cons p q ps qs h t ih =>
    obtain ⟨h1, h2⟩ := h
    by_cases e : p.1 = k
    · have e' : q.1 = k := h1.symm.trans e
      have b : valueAt (q :: qs) k = some q.2 := by simp [valueAt, List.find?_cons, e']
      rw [valV_pos e, b]; exact h2
    · have e' : ¬ q.1 = k := fun z => e (h1.trans z)
      have b : valueAt (q :: qs) k = valueAt qs k := by simp [valueAt, List.find?_cons, e']
      rw [valV_neg e, b]; exact ih
theorem KV.any {kvs : List (κ × V)} {vs : List (κ × Value)} (r : KV kvs vs) (k : κ) : (kvs.any fun kv => decide (kv.1 = k)) = vs.any fun kv => decide (kv.1 = k) := by
  unfold KV at r
  induction r with
  | nil => rfl
  | cons h t ih => rw [List.any_cons, List.any_cons, ih, h.1]
theorem KV.repl {kvs : List (κ × V)} {vs : List (κ × Value)} (r : KV kvs vs) (k : κ) {y : V} {u : Value} (ry : RelV y u) :
    KV (kvs.map fun kv => if kv.1 = k then (kv.1, y) else kv) (vs.map fun kv => if kv.1 = k then (kv.1, u) else kv) := by
  unfold KV at r ⊢
  induction r with
  | nil => exact .nil
  | @cons p q ps qs h t ih =>
    rw [List.map_cons, List.map_cons]
    refine .cons ?_ ih
    obtain ⟨h1, h2⟩ := h
    by_cases e : p.1 = k
    · rw [if_pos e, if_pos (h1.symm.trans e)]; exact ⟨h1, ry⟩
    · rw [if_neg e, if_neg (fun z => e (h1.trans z))]; exact ⟨h1, h2⟩
theorem KV.put {kvs : List (κ × V)} {vs : List (κ × Value)} (r : KV kvs vs) (k : κ) {y : V} {u : Value} (ry : RelV y u) : KV (putK kvs k y) (stored vs k u) := by
  unfold putK stored
  rw [r.any k]
  by_cases e : (vs.any fun kv => decide (kv.1 = k)) = true
  · rw [if_pos e, if_pos e]; exact r.repl k ry
  · rw [if_neg e, if_neg e]; exact Paired.snoc r ⟨rfl, ry⟩
theorem KV.keys {kvs : List (κ × V)} {vs : List (κ × Value)} (r : KV kvs vs) : kvs.map (·.1) = vs.map (·.1) := by
  unfold KV at r
  induction r with
  | nil => rfl
  | cons h t ih => rw [List.map_cons, List.map_cons, ih, h.1]
theorem KV.length {kvs : List (κ × V)} {vs : List (κ × Value)} (r : KV kvs vs) : kvs.length = vs.length := Paired.length r
end


/-! ### a tracked dict, its keys ints and texts or tuples of these -/
theorem kV_is {P : Program} {w : World} {k : Key} {u : Value} (r : RelV (kV k) u) : (mixKind P w).is k u = true := by
  cases k with
  | inl i => obtain ⟨t, e⟩ := (show ∃ t, u = Value.int i t from r); subst e; exact mixKind_int P w i t
  | inr x => obtain ⟨t, e⟩ := (show ∃ t, u = Value.str x t from r); subst e; exact mixKind_str P w x t
theorem items_are {P : Program} {w : World} : ∀ {ks : List Key} {us : List Value}, Vals (ks.map kV) us → ItemsAre (mixKind P w) ks us
  | [], _, r => by rw [List.map_nil] at r; cases r; exact .nil
  | k :: ks, _, r => by
    rw [List.map_cons] at r
    cases r with
    | cons h t => exact .cons (kV_is h) (items_are t)

/-- raw entries of a dict with tuple keys -/
abbrev KTd (H : Hp) : List (List Key × V) → List (List Key × Addr × Value) → Prop := Paired fun p q => p.1 = q.1 ∧ H q.2.1 = some (.tup (p.1.map kV)) ∧ RelV p.2 q.2.2
theorem KTd.val {H : Hp} {kvs : List (List Key × V)} {xs : List (List Key × Addr × Value)} (r : KTd H kvs xs) (k : List Key) : RelO (valV kvs k) ((atKey xs k).map (·.2)) := by
  induction r with
  | nil => exact True.intro
  | @cons p q ps qs h t ih =>
    obtain ⟨h1, _, h2⟩ := h
    by_cases e : p.1 = k
    · have e' : q.1 = k := h1.symm.trans e
      have b : atKey (q :: qs) k = some q.2 := by simp [atKey, List.find?_cons, e']
      rw [valV_pos e, b]; exact h2
    · have e' : ¬ q.1 = k := fun z => e (h1.trans z)
      have b : atKey (q :: qs) k = atKey qs k := by simp [atKey, List.find?_cons, e']
      rw [valV_neg e, b]; exact ih
theorem KTd.repl {H : Hp} {kvs : List (List Key × V)} {xs : List (List Key × Addr × Value)} (r : KTd H kvs xs) (k : List Key) {y : V} {u : Value} (ry : RelV y u) :
    KTd H (kvs.map fun kv => if kv.1 = k then (kv.1, y) else kv) (xs.map (putAt k u)) := by
  induction r with
  | nil => exact .nil
  | @cons p q ps qs h t ih =>
    rw [List.map_cons, List.map_cons]
    refine .cons ?_ ih
    obtain ⟨h1, h2, h3⟩ := h
    unfold putAt
    by_cases e : p.1 = k
    · rw [if_pos e, if_pos (h1.symm.trans e)]; exact ⟨h1, h2, ry⟩
    · rw [if_neg e, if_neg (fun z => e (h1.trans z))]; exact ⟨h1, h2, h3⟩
theorem KTd.put {H : Hp} {kvs : List (List Key × V)} {xs : List (List Key × Addr × Value)} (r : KTd H kvs xs) (k : List Key) {b : Addr} {y : V} {u : Value} (hb : H b = some (.tup (k.map kV))) (ry : RelV y u) :
    KTd H (putK kvs k y) (storedH xs k b u) := by
  have e : (kvs.any fun kv => decide (kv.1 = k)) = (atKey xs k).isSome := by
    rw [valV_any, (r.val k).isSome_eq, Option.isSome_map]
  unfold putK storedH
  rw [e]
  by_cases q : (atKey xs k).isSome = true
  · rw [if_pos q, if_pos q]; exact r.repl k ry
  · rw [if_neg q, if_neg q]; exact Paired.snoc r ⟨rfl, hb, ry⟩
theorem KTd.keeps {H H' : Hp} {kvs : List (List Key × V)} {xs : List (List Key × Addr × Value)} (r : KTd H kvs xs) (ht : ∀ b ys, H b = some (.tup ys) → H' b = some (.tup ys)) : KTd H' kvs xs :=
  Paired.mapP r fun _ _ z => ⟨z.1, ht _ _ z.2.1, z.2.2⟩

section
variable {P : Program} {w : World} {H : Hp} {h : Heap} {a : Addr}
theorem rd_of {u : HO} (ok : HOk P w H h) (e : Rd H a u) : ObjOk P w H h a u := e.ok ok
theorem dk_rd {kvs : List (Key × V)} (ok : HOk P w H h) (e : Rd H a (.dK kvs)) : kvs.length ≤ sizeLine ∧ (a == sysModules) = false ∧ ∃ vs, KV kvs vs ∧ h.DictOf (mixKind P w) a vs :=
  show ObjOk P w H h a (.dK kvs) from rd_of ok e
theorem dk_of {kvs : List (Key × V)} (ok : HOk P w H h) (e : H a = some (.dK kvs)) : kvs.length ≤ sizeLine ∧ (a == sysModules) = false ∧ ∃ vs, KV kvs vs ∧ h.DictOf (mixKind P w) a vs := dk_rd ok (.inl e)
/-- a tracked tuple of ints and texts is a key -/
theorem key_of {ks : List Key} (ok : HOk P w H h) (e : H a = some (.tup (ks.map kV))) : (tupleKind (mixKind P w)).is h ks a := by
  obtain ⟨_, its, r, o, h1, h2, n, h3⟩ := (show ObjOk P w H h a (.tup (ks.map kV)) from ok a _ e)
  exact ⟨o, its.toArray, n, h1, h2, h3, by simpa using items_are r⟩
theorem dt_rd {kvs : List (List Key × V)} (ok : HOk P w H h) (e : Rd H a (.dT kvs)) : kvs.length ≤ sizeLine ∧ (a == sysModules) = false ∧
    ∃ xs, KTd H kvs xs ∧ h.DictOfH (tupleKind (mixKind P w)) a xs := by
  obtain ⟨z, y, xs, r, o, es, ep, h1, h2, h3, h4, h5⟩ := (show ObjOk P w H h a (.dT kvs) from rd_of ok e)
  refine ⟨z, y, xs, r, o, es, ep, h1, h2, h3, h4, fun x hx => ?_, h5⟩
  have all : ∀ {l : List (List Key × V)} {m : List (List Key × Addr × Value)}, KTd H l m → ∀ x ∈ m, (tupleKind (mixKind P w)).is h x.1 x.2.1 := by
    intro l m q
    induction q with
    | nil => intro x hx; exact nomatch hx
    | @cons p q ps qs hq t ih =>
      intro x hx
      rcases List.mem_cons.mp hx with e | hx
      · subst e
        exact key_of ok (by rw [← hq.1]; exact hq.2.1)
      · exact ih x hx
  exact all r x hx
theorem dt_of {kvs : List (List Key × V)} (ok : HOk P w H h) (e : H a = some (.dT kvs)) : kvs.length ≤ sizeLine ∧ (a == sysModules) = false ∧
    ∃ xs, KTd H kvs xs ∧ h.DictOfH (tupleKind (mixKind P w)) a xs := dt_rd ok (.inl e)
end

/-- what the dict at a holds at the key y -/
def DGet (H : Hp) (a : Addr) (y : V) (r : Option V) : Prop :=
  (∃ kvs k, Rd H a (.dK kvs) ∧ y = kV k ∧ r = valV kvs k) ∨ ∃ kvs k b, Rd H a (.dT kvs) ∧ y = .ref b ∧ H b = some (.tup (k.map kV)) ∧ r = valV kvs k
/-- the heap behind a[y] = v -/
def DPut (H : Hp) (a : Addr) (y v : V) (H' : Hp) : Prop :=
  (∃ kvs k, H a = some (.dK kvs) ∧ y = kV k ∧ kvs.length < sizeLine ∧ H' = upd H a (.dK (putK kvs k v))) ∨
  ∃ kvs k b, H a = some (.dT kvs) ∧ y = .ref b ∧ H b = some (.tup (k.map kV)) ∧ kvs.length < sizeLine ∧ H' = upd H a (.dT (putK kvs k v))
theorem DGet.k {H : Hp} {a : Addr} {kvs : List (Key × V)} {k : Key} (e : H a = some (.dK kvs)) : DGet H a (kV k) (valV kvs k) := .inl ⟨kvs, k, .inl e, rfl, rfl⟩
theorem DPut.k {H : Hp} {a : Addr} {kvs : List (Key × V)} {k : Key} {v : V} (e : H a = some (.dK kvs)) (hl : kvs.length < sizeLine) : DPut H a (kV k) v (upd H a (.dK (putK kvs k v))) := .inl ⟨kvs, k, e, rfl, hl, rfl⟩
section
variable {X : Cx} {pins : List (Addr × Obj)} {σ : St} {H : Hp} {s : Shared} {a : Addr} {y v : V} {u r : Value} {o : Option V} {A : Around} {E : Value → Shared → Prop}

theorem Inv.big (I : Inv X pins σ H s) : sysModules < s.heap.objs.size := by
  have h : mainGlobals < s.heap.objs.size := (I.mod.glob.keeps I.bk).lt
  exact Nat.lt_trans (by decide) h

/-- d[y], there -/
theorem d_getItem {Q : Value → Shared → Prop} (hu : A.units + 1 < cLine) (I : Inv X pins σ H s) (g : DGet H a y (some v)) (ry : RelV y u) (h : ∀ w' s', Inv X pins σ H s' → RelV v w' → Q w' s') :
    wpAny (model X.prog X.w) A (getItem (.ref a) u) Q E s := by
  rcases g with ⟨kvs, k, e, ey, l⟩ | ⟨kvs, k, b, e, ey, eb, l⟩
  · subst ey
    obtain ⟨z, hd, vs, rel, dd⟩ := dk_rd I.hok e
    obtain ⟨w', hw, rw'⟩ := RelO.some_of (v := v) (o := valueAt vs k) (by rw [l]; exact rel.val k)
    exact wpAny_getItem_of (kV_is ry) dd.mapOf hw (h w' _ (I.tok _) rw')
  · subst ey
    cases (show u = Value.ref b from ry)
    obtain ⟨z, hd, xs, rel, dd⟩ := dt_rd I.hok e
    obtain ⟨w', hw, rw'⟩ := RelO.some_of (v := v) (o := (atKey xs k).map (·.2)) (by rw [l]; exact rel.val k)
    obtain ⟨p, hp, hp2⟩ := Option.map_eq_some_iff.mp hw
    refine wpAny_getItem_heap (tupleKind_room_in1 hu) (key_of I.hok eb) dd hp ?_
    rw [hp2]
    exact h w' _ (I.tok _) rw'
/-- a dict's object is replaced -/
theorem d_write {h' : Heap} {t' : Nat} {ob : HO} (I : Inv X pins σ H s) (mu : Mut (H a)) (hs : Heap.SameBut a s.heap h') (he : ∃ q, h'.get? a = some q) (new : ObjOk X.prog X.w (upd H a ob) h' a ob) :
    Inv X pins σ (upd H a ob) { s with heap := h', toks := t' } :=
  I.write (x := a) (e := a) mu (.inl rfl) (fun b q hb z => (hs.2 b hb).trans z) he new
theorem dk_new {P : Program} {w : World} {H' : Hp} {h' : Heap} {kvs : List (Key × V)} {vs : List (Key × Value)} (z : kvs.length ≤ sizeLine) (hd : (a == sysModules) = false) (rel : KV kvs vs) (dd : h'.DictOf (mixKind P w) a vs) :
    ObjOk P w H' h' a (.dK kvs) := ⟨z, hd, vs, rel, dd⟩
/-- d[y] = v -/
theorem d_setItem {H' : Hp} {Q : Unit → Shared → Prop} (hu : A.units + 1 < cLine) (I : Inv X pins σ H s) (g : DPut H a y v H') (ry : RelV y u) (rv : RelV v r) (h : ∀ s', Inv X pins σ H' s' → Q () s') :
    wpAny (model X.prog X.w) A (setItem (.ref a) u r) Q E s := by
  rcases g with ⟨kvs, k, e, ey, l, eH⟩ | ⟨kvs, k, b, e, ey, eb, l, eH⟩
  · subst ey eH
    obtain ⟨z, hd, vs, rel, dd⟩ := dk_of I.hok e
    have hz : vs.length ≤ sizeLine := by rw [← rel.length]; exact z
    have hl : (putK kvs k v).length ≤ sizeLine := by have := length_putK kvs k v; omega
    refine wpAny_setItem_pairs (hsz := hz) (kV_is ry) dd fun h' dd' hs => h _ ?_
    have he : ∃ q, h'.get? a = some q := let ⟨q, _, _, hq, _⟩ := dd'; ⟨q, hq⟩
    exact d_write I (by rw [e]; exact True.intro) hs he (dk_new hl hd (rel.put k rv) dd')
  · subst ey eH
    cases (show u = Value.ref b from ry)
    obtain ⟨z, hd, xs, rel, dd⟩ := dt_of I.hok e
    have hz : xs.length ≤ sizeLine := by rw [← Paired.length rel]; exact z
    have hl : (putK kvs k v).length ≤ sizeLine := by have := length_putK kvs k v; omega
    refine wpAny_setItem_heap (hsz := hz) (tupleKind_room_in1 hu) (key_of I.hok eb) dd fun h' dd' hs => h _ ?_
    obtain ⟨q, es, ep, hq, h2, h3, h4, _, h5⟩ := dd'
    refine d_write I (by rw [e]; exact True.intro) hs ⟨q, hq⟩ ⟨hl, hd, _, (rel.put k eb rv).keeps fun c ys ec => ?_, q, es, ep, hq, h2, h3, h4, h5⟩
    rw [upd_ne (ne_of ec e (fun z => nomatch z))]
    exact ec
end

section
variable {X : Cx} {pins : List (Addr × Obj)} {σ : St} {H : Hp} {s : Shared} {a : Addr} {kvs : List (Key × V)} {k : Key} {u : Value} {A : Around} {E : Value → Shared → Prop}
end


/-! ### readings and rules -/
/-- the element of a subscription, not a slice -/
def NoSl (i : Expr) : Prop := ∀ ov iv, subscripted i false ov iv = operate [ov, iv] (getItem ov iv)
theorem subD_of {prog : Program} {w : World} {A : Around} {E : Value → Shared → Prop} {s : Shared} {env : Env} {value slice : Expr} {pos : Pos} {T id : String} {Q : Value → Shared → Prop}
    (hl : typeLookup (.type T) "__getitem__" = pure (some (.builtin id))) (hs : NoSl slice)
    (h : wpAny (model prog w) A (eval value env) (fun o s₁ => wpAny (model prog w) A (eval slice env) (fun i s₂ => s₂.TypeIs o T ∧ wpAny (model prog w) A (getItem o i) Q E s₂) E s₁) E s) :
    wpAny (model prog w) A (eval (.Subscript value slice pos) env) Q E s := by
  refine Subscript_ (wpAny_mono h (fun o s₁ h₁ => wpAny_mono h₁ (fun i s₂ h₂ => ?_) fun _ _ x => x) fun _ _ x => x)
  obtain ⟨hT, h₂⟩ := h₂
  unfold subscriptTail
  refine wpAny_bind ?_
  rw [getitemInPython_of_ne hT.not_modules]
  refine wpAny_bind (wpAny_specialOf hT hl ?_)
  have fin : wpAny (model prog w) A (subscripted slice false o i) (fun r s₃ => wpAny (model prog w) A (letTemporaryGo value o r >>= fun _ => pure r) Q E s₃) E s₂ := by
    rw [hs o i]
    exact wpAny_operating (wpAny_mono h₂ (fun r s₃ h₃ => wpAny_bind (wpAny_letTemporaryGo (wpAny_pure h₃))) fun _ _ x => x)
  first
    | exact wpAny_pure (wpAny_bind fin)
    | exact wpAny_bind (wpAny_pure (wpAny_bind fin))
    | exact wpAny_bind fin

theorem dict_typeIs {X : Cx} {pins : List (Addr × Obj)} {σ : St} {H : Hp} {s : Shared} {a : Addr} {y : V} {o : Option V} (I : Inv X pins σ H s) (g : DGet H a y o) : s.TypeIs (.ref a) "dict" := by
  rcases g with ⟨kvs, k, e, _, _⟩ | ⟨kvs, k, b, e, _, _, _⟩
  · obtain ⟨_, _, vs, _, dd⟩ := dk_rd I.hok e
    exact dd.typeIs
  · obtain ⟨_, _, xs, _, dd⟩ := dt_rd I.hok e
    exact dd.typeIs
/-- d[y] -/
def tDGet (td ty : TE) : TE := fun σ H Q => td σ H fun x H1 => ty σ H1 fun y H2 => ∃ a v, x = .ref a ∧ DGet H2 a y (some v) ∧ Q v H2
/-- d[y] = v -/
def sDPut (td ty tv : TE) : TS := fun D σ H => tv σ H fun v H1 => td σ H1 fun x H2 => ty σ H2 fun y H3 => ∃ a H4, x = .ref a ∧ DPut H3 a y v H4 ∧ D.nx σ H4
section
variable {X : Cx} {o i e value : Expr} {pos pos' tpos : Pos} {td ty tv : TE}
theorem pe_dget (hu : X.A.units + 1 < cLine) (ho : PE X o td) (hi : PE X i ty) (hs : NoSl i) : PE X (.Subscript o i pos) (tDGet td ty) := by
  intro pins s σ H Q I h
  refine subD_of PySem.F.slot_dict_getitem.lookup hs (thn (ho pins s σ H _ I h) fun u s1 ⟨x, H1, I1, rx, q1⟩ => thn (hi pins s1 σ H1 _ I1 q1) fun iv s2 ⟨y, H2, I2, ry, a, v, ex, g, q2⟩ => ?_)
  subst ex
  obtain rfl : u = Value.ref a := rx
  exact ⟨dict_typeIs I2 g, d_getItem hu I2 g ry fun w' s3 I3 rw' => ⟨v, H2, I3, rw', q2⟩⟩
theorem ps_dput (hu : X.A.units + 1 < cLine) (ho : PE X o td) (hi : PE X i ty) (hv : PE X value tv) (hs : swapsWith value (some (.Subscript o i pos')) pos.line X.env = pure false) :
    PS X (.Assign [.Subscript o i pos'] value pos) (sDPut td ty tv) := by
  intro pins s σ H D I h
  refine wpAny_Assign_Subscript (thn (hv pins s σ H _ I h) fun r s1 ⟨v, H1, I1, rv, q1⟩ => thn (ho pins s1 σ H1 _ I1 q1) fun u s2 ⟨x, H2, I2, rx, q2⟩ => thn (hi pins s2 σ H2 _ I2 q2) fun iv s3 ⟨y, H3, I3, ry, a, H4, ex, g, q3⟩ => ?_) hs
  subst ex
  obtain rfl : u = Value.ref a := rx
  exact d_setItem hu I3 g ry rv fun s4 I4 => ⟨σ, H4, I4, q3⟩
end


/-! ### displays -/
theorem dk_empty {P : Program} {w : World} {H : Hp} (h : Heap) (hb : sysModules < h.objs.size) : ObjOk P w H (h.push { cls := .type "dict", data := .dict #[] }) h.objs.size (.dK []) :=
  ⟨Nat.zero_le _, beq_eq_false_iff_ne.mpr (Ne.symm (Nat.ne_of_lt hb)), [], .nil, Heap.DictOf.new h⟩
/-- {}, to be a dict of the kind that is wanted -/
def tDNewK : TE := fun _ H Q => ∀ p, H p = none → Q (.ref p) (upd H p (.dK []))
section
variable {X : Cx} {pos : Pos}
theorem pe_dnewK : PE X (.Dict [] [] pos) tDNewK := fun pins s σ H Q I h =>
  wpAny_Dict_empty ⟨.ref s.heap.objs.size, _, I.laid (a := s.heap.objs.size) (o := .dK []) (t' := s.toks) (fun _ _ q => Heap.get?_push_of_some _ q) (Nat.le_refl _) (dk_empty s.heap I.big), rfl, h _ (I.hok.fresh (Nat.le_refl _))⟩
end

/-- the pairs of a display, from the left -/
def tPairs : List (TE × TE) → St → Hp → (List (V × V) → Hp → Prop) → Prop
  | [], _, H, Q => Q [] H
  | (tk, tv) :: r, σ, H, Q => tk σ H fun x H1 => tv σ H1 fun y H2 => tPairs r σ H2 fun ps H3 => Q ((x, y) :: ps) H3
abbrev VV : List (V × V) → List (Value × Value) → Prop := Paired fun p q => RelV p.1 q.1 ∧ RelV p.2 q.2
def PPs (X : Cx) (pos : Pos) (keys : List (Option Expr)) (values : List Expr) (trs : List (TE × TE)) : Prop :=
  ∀ (pins : List (Addr × Obj)) (s : Shared) (σ : St) (H : Hp) (Q : List (V × V) → Hp → Prop), Inv X pins σ H s → tPairs trs σ H Q →
    wpAny (model X.prog X.w) X.A (evalPairs (pairTrees keys values X.env pos)) (fun vs s' => ∃ ps H', Inv X pins σ H' s' ∧ VV ps vs ∧ Q ps H') X.xe s
theorem pps_nil {X : Cx} {pos : Pos} : PPs X pos [] [] [] := fun pins s σ H Q I h => pairTrees_nil_walk ⟨[], H, I, .nil, h⟩
theorem pps_cons {X : Cx} {pos : Pos} {k v : Expr} {ks : List (Option Expr)} {vs : List Expr} {tk tv : TE} {trs : List (TE × TE)} (hk : PE X k tk) (hv : PE X v tv) (hr : PPs X pos ks vs trs) :
    PPs X pos (some k :: ks) (v :: vs) ((tk, tv) :: trs) := fun pins s σ H Q I h =>
  pairTrees_cons_walk (thn (hk pins s σ H _ I h) fun u s1 ⟨x, H1, I1, rx, q1⟩ => thn (hv pins s1 σ H1 _ I1 q1) fun w2 s2 ⟨y, H2, I2, ry, q2⟩ =>
    thn (hr pins s2 σ H2 _ I2 q2) fun ws s3 ⟨ps, H3, I3, rel, q3⟩ => ⟨(x, y) :: ps, H3, I3, .cons ⟨rx, ry⟩ rel, q3⟩)

def mergeK (kvs more : List (Key × V)) : List (Key × V) := more.foldl (fun acc kv => putK acc kv.1 kv.2) kvs
theorem KV.merge : ∀ {more : List (Key × V)} {rs : List (Key × Value)} {kvs : List (Key × V)} {vs : List (Key × Value)}, KV more rs → KV kvs vs → KV (mergeK kvs more) (merged vs rs) := by
  intro more rs kvs vs r
  unfold KV at r
  induction r generalizing kvs vs with
  | nil => intro q; exact q
  | @cons p q ps qs h t ih =>
    intro r0
    have e : KV (putK kvs p.1 p.2) (stored vs q.1 q.2) := by
      have := r0.put p.1 h.2
      rw [← h.1]; exact this
    exact ih e
theorem length_mergeK : ∀ (more kvs : List (Key × V)), (mergeK kvs more).length ≤ kvs.length + more.length
  | [], kvs => by show kvs.length ≤ kvs.length + 0; omega
  | p :: r, kvs => by
    have h1 := length_mergeK r (putK kvs p.1 p.2)
    have h2 := length_putK kvs p.1 p.2
    show (mergeK (putK kvs p.1 p.2) r).length ≤ _
    rw [List.length_cons]; omega
theorem carries_of {P : Program} {w : World} : ∀ {kvs : List (Key × V)} {ws : List (Value × Value)}, VV (kvs.map fun kv => (kV kv.1, kv.2)) ws → ∃ rs, Carries (mixKind P w) ws rs ∧ KV kvs rs
  | [], _, r => by rw [List.map_nil] at r; cases r; exact ⟨[], True.intro, .nil⟩
  | p :: kvs, _, r => by
    rw [List.map_cons] at r
    cases r with
    | @cons a b as bs h t =>
      obtain ⟨rs, c, q⟩ := carries_of (P := P) (w := w) t
      obtain ⟨b1, b2⟩ := b
      exact ⟨(p.1, b2) :: rs, ⟨kV_is h.1, rfl, c⟩, .cons ⟨rfl, h.2⟩ q⟩
/-- {k: v, ..} with keys ints and texts; the new dict stands empty while the pairs are made -/
def tDisp (trs : List (TE × TE)) : TE := fun σ H Q => ∀ p, H p = none → tPairs trs σ (upd H p (.dK [])) fun ps H2 => H2 p = some (.dK []) ∧ ∃ kvs : List (Key × V), ps = kvs.map (fun kv => (kV kv.1, kv.2)) ∧ kvs.length ≤ 15 ∧ Q (.ref p) (upd H2 p (.dK (mergeK [] kvs)))
theorem pe_disp {X : Cx} {pos : Pos} {keys : List (Option Expr)} {values : List Expr} {trs : List (TE × TE)} (h : PPs X pos keys values trs) (hall : keys.all (·.isSome) = true) (hl : keys.length = values.length) (h0 : keys ≠ [])
    (h15 : keys.length ≤ 15) : PE X (.Dict keys values pos) (tDisp trs) := by
  intro pins s σ H Q I q
  have hn := I.hok.fresh (Nat.le_refl s.heap.objs.size)
  have I1 := I.laid (a := s.heap.objs.size) (o := .dK []) (h' := s.heap.push { cls := .type "dict", data := .dict #[] }) (t' := s.toks) (fun _ _ q => Heap.get?_push_of_some _ q) (Nat.le_refl _) (dk_empty s.heap I.big)
  refine wpAny_Dict_walk (knd := mixKind X.prog X.w) hall hl h0 h15 (thn (h pins _ σ _ _ I1 (q _ hn)) fun ws s2 ⟨ps, H2, I2, rel, e, kvs, ep, lk, q2⟩ => ?_)
  subst ep
  obtain ⟨rs, c, rk⟩ := carries_of (P := X.prog) (w := X.w) rel
  obtain ⟨z, hd, vs0, r0, dd⟩ := dk_of I2.hok e
  cases r0
  refine ⟨rs, c, dd, fun h' dd' hs => ⟨.ref s.heap.objs.size, _, ?_, rfl, q2⟩⟩
  have hz : (mergeK [] kvs).length ≤ sizeLine := by
    have h1 := length_mergeK kvs []
    rw [List.length_nil] at h1
    rw [sizeLine_eq]; omega
  have he : ∃ q, h'.get? s.heap.objs.size = some q := let ⟨q, _, _, hq, _⟩ := dd'; ⟨q, hq⟩
  exact d_write I2 (by rw [e]; exact True.intro) hs he (dk_new hz hd (rk.merge .nil) dd')


/-! ### methods -/
structure M2 (X : Cx) (o : Expr) (m : Str) (apos : Pos) (e f : Expr) (cpos : Pos) : Prop where
  base : attributeBase o m X.env (eval o X.env) = eval o X.env
  few : ((backTo cpos (starEach [e, f] X.env)).all (fun x => !x.1) && (backToKw cpos (keywordEach [] X.env)).all (fun x => x.1.isSome)
    && decide (([e, f] : List Expr).length + ([] : List Keyword).length + (if ([] : List Keyword).isEmpty then 0 else 1) < 30)) = true
  line : (apos.endLine == cpos.line) = true
  trees : backTo cpos (starEach [e, f] X.env) = [(false, eval e X.env), (false, eval f X.env)]

/-- a is a dict, whatever its keys -/
def IsD (H : Hp) (a : Addr) : Prop := (∃ kvs, Rd H a (.dK kvs)) ∨ ∃ kvs, Rd H a (.dT kvs)
theorem isD_at {X : Cx} {pins : List (Addr × Obj)} {σ : St} {H : Hp} {s : Shared} {a : Addr} (I : Inv X pins σ H s) (d : IsD H a) :
    s.TypeIs (.ref a) "dict" ∧ (∀ b, Value.ref a = .ref b → ∃ ob, s.heap.get? b = some ob ∧ ob.dict = none) ∧ (a == sysModules) = false := by
  rcases d with ⟨kvs, e⟩ | ⟨kvs, e⟩
  · obtain ⟨_, hd, vs, _, dd⟩ := dk_rd I.hok e
    refine ⟨dd.typeIs, fun b q => ?_, hd⟩
    cases q
    obtain ⟨ob, _, _, h1, h2, _⟩ := dd
    exact ⟨ob, h1, h2.2.1⟩
  · obtain ⟨_, hd, xs, _, dd⟩ := dt_rd I.hok e
    refine ⟨dd.typeIs, fun b q => ?_, hd⟩
    cases q
    obtain ⟨ob, _, _, h1, h2, _⟩ := dd
    exact ⟨ob, h1, h2.2.1⟩

section
variable {X : Cx} {pins : List (Addr × Obj)} {σ : St} {H : Hp} {s : Shared} {a : Addr} {y d : V} {u r : Value} {o : Option V} {A : Around} {E : Value → Shared → Prop}
/-- d.get(y, x) -/
theorem d_get2 {Q : Value → Shared → Prop} (hu : A.units + 1 < cLine) (I : Inv X pins σ H s) (g : DGet H a y o) (ry : RelV y u) (rd : RelV d r) (h : ∀ w' s', Inv X pins σ H s' → RelV (o.getD d) w' → Q w' s') :
    wpAny (model X.prog X.w) A (call (.builtin "dict.get") [.ref a, u, r]) Q E s := by
  rcases g with ⟨kvs, k, e, ey, l⟩ | ⟨kvs, k, b, e, ey, eb, l⟩
  · subst ey
    obtain ⟨z, hd, vs, rel, dd⟩ := dk_rd I.hok e
    refine call_meetsIn PySem.F.slot_dict_get dd.typeIs PySem.F.entry_dict_get (PySem.F.args_dict_get_3 _ _ _) (meets_dict_get_default (mixKind X.prog X.w) a (kV_is ry) hd r) ⟨_, dd.mapOf, h _ _ (I.tok _) ?_⟩
    rw [l]
    exact (rel.val k).getD rd
  · subst ey
    cases (show u = Value.ref b from ry)
    obtain ⟨z, hd, xs, rel, dd⟩ := dt_rd I.hok e
    refine call_meetsIn PySem.F.slot_dict_get dd.typeIs PySem.F.entry_dict_get (PySem.F.args_dict_get_3 _ _ _) (meetsH_dict_get_default (tupleKind (mixKind X.prog X.w)) a b hd r) ⟨tupleKind_room_in1 hu, k, xs, key_of I.hok eb, dd, h _ _ (I.tok _) ?_⟩
    rw [l]
    exact (rel.val k).getD rd
end

def tDGet2 (td ty tx : TE) : TE := fun σ H Q => td σ H fun x H1 => ∃ a, x = .ref a ∧ IsD H1 a ∧ ty σ H1 fun y H2 => tx σ H2 fun z H3 => ∃ o, DGet H3 a y o ∧ Q (o.getD z) H3
section
variable {X : Cx} {o e f : Expr} {apos cpos : Pos} {td ty tx : TE}
theorem pe_dget2 (hu : X.A.units + 1 < cLine) (ho : PE X o td) (he : PE X e ty) (hf : PE X f tx) (m : M2 X o "get" apos e f cpos) : PE X (.Call (.Attribute o "get" apos) [e, f] [] cpos) (tDGet2 td ty tx) := by
  intro pins s σ H Q I h
  refine wpAny_Call_method m.base m.few m.line PySem.F.plainAttrs_dict PySem.F.slot_dict_get PySem.F.type_dict_get (thn (ho pins s σ H _ I h) fun u s1 ⟨x, H1, I1, rx, a, ex, d, q1⟩ => ?_)
  subst ex
  obtain rfl : u = Value.ref a := rx
  obtain ⟨t1, t2, _⟩ := isD_at I1 d
  refine ⟨t1, t2, ?_⟩
  rw [m.trees]
  refine Calls.callWith_builtin rfl (Calls.evalArgs_plain (Calls.spliced_cons (thn (he pins s1 σ H1 _ I1 q1) fun iv s2 ⟨y, H2, I2, ry, q2⟩ =>
    Calls.spliced_cons (thn (hf pins s2 σ H2 _ I2 q2) fun fv s3 ⟨z, H3, I3, rz, ov, g, q3⟩ => Calls.spliced_nil ?_))))
  exact d_get2 hu I3 g ry rz fun w' s4 I4 rw' => ⟨_, H3, I4, rw', q3⟩
end

/-! ### dict(d): a copy -/
section
variable {X : Cx} {pins : List (Addr × Obj)} {σ : St} {H : Hp} {s : Shared} {a : Addr} {kvs : List (Key × V)} {A : Around} {E : Value → Shared → Prop}
end


section
variable {X : Cx} {pins : List (Addr × Obj)} {σ : St} {H : Hp} {s : Shared} {a : Addr} {y : V} {u : Value} {A : Around} {E : Value → Shared → Prop}
end
end L2

namespace L2
open PySem PySem.Spec PyProof.Rows
/-! ### a dict's pairs: keys that differ -/
section
variable {κ : Type} [DecidableEq κ]
end
end L2

set_option Elab.async false
set_option linter.all false
set_option maxRecDepth 100000
set_option maxHeartbeats 1000000
namespace L2
open PySem PySem.Spec PyProof.Rows
/-! for k, v in d.items(): the dict is held as it lies from then on -/
theorem key_rel {k : Key} {u : Value} (h : keyIs k u = true) : RelV (kV k) u := by
  rcases keyIs_shape h with ⟨i, t, rfl, rfl⟩ | ⟨x, t, rfl, rfl⟩
  · exact ⟨t, rfl⟩
  · exact ⟨t, rfl⟩
section
variable {X : Cx} {pins : List (Addr × Obj)} {σ : St} {H : Hp} {s : Shared}
/-- a dict that is held as it lies -/
theorem Inv.frozen {d : Addr} {o : Obj} {kvs : List (Key × V)} (I : Inv X pins σ H s) (e : H d = some (.dK kvs)) (ho : s.heap.get? d = some o) : Inv X pins σ (upd H d (.frz o (.dK kvs))) s := by
  have ne : ∀ b u, H b = some u → u ≠ .dK kvs → b ≠ d := fun b u eb hu z => by rw [z, e] at eb; cases eb; exact hu rfl
  refine I.step (h' := s.heap) (g' := s.gens) (d' := s.drawn) (t' := s.toks) (ch := []) (fun _ z => nomatch z) (fun b o _ _ _ e _ => e) (fun b o _ _ _ e _ => ⟨o.slots, e⟩) (fun b ob _ _ n => ?_) (fun b o _ e => ⟨o, e⟩) (fun b xs eb => ?_) (fun b ob u eb => ?_) (fun b ps eb => ⟨#[], ?_⟩) (fun m hm => hm) (fun b u eb => ?_) I.bare
  · rw [upd_ne (fun z => by rw [z, e] at n; cases n)]; exact n
  · rw [upd_ne (ne b _ eb (by intro z; cases z))]; exact eb
  · rw [upd_ne (ne b _ eb (by intro z; cases z))]; exact eb
  · rw [upd_ne (ne b _ eb (by intro z; cases z)), eb]; simp
  · by_cases hb : b = d
    · subst hb
      rw [upd_same] at eb
      cases eb
      exact ⟨ho, I.hok b _ e⟩
    · rw [upd_ne hb] at eb
      refine (I.hok b u eb).stay (fun c v' _ r => r) (fun c r => ?_) fun c xs r => ?_
      · rw [upd_ne (ne c _ r (by intro z; cases z))]; exact r
      · rw [upd_ne (ne c _ r (by intro z; cases z))]; exact r
end
def Itd (d : Addr) (o : Obj) (kvs : List (Key × V)) : It :=
  ⟨fun i H => H d = some (.frz o (.dK kvs)) ∧ i < kvs.length,
   fun i H v H' => ∃ T k x, v = .ref T ∧ H T = none ∧ H' = upd H T (.tup [kV k, x]) ∧ kvs[i]? = some (k, x),
   fun i H => H d = some (.frz o (.dK kvs)) ∧ kvs.length ≤ i⟩
theorem KV.get {kvs : List (Key × V)} {vs : List (Key × Value)} (r : KV kvs vs) {i : Nat} {k : Key} {x : V} (h : kvs[i]? = some (k, x)) : ∃ u, vs[i]? = some (k, u) ∧ RelV x u := by
  unfold KV at r
  revert i
  induction r with
  | nil => intro i h; simp at h
  | cons a b ih =>
    intro i h
    cases i with
    | zero =>
      simp at h
      subst h
      obtain ⟨a1, a2⟩ := a
      rename_i y _ _
      obtain ⟨y1, y2⟩ := y
      simp only at a1 a2
      subst a1
      exact ⟨y2, rfl, a2⟩
    | succ i =>
      obtain ⟨u, h1, h2⟩ := ih (by simpa using h)
      exact ⟨u, by simpa using h1, h2⟩
theorem entry_itemiter_iter : entryFor table "dict_itemiterator.__iter__" = some Builtin.«dict_keyiterator.__iter__» :=
  entryFor_alias (id' := "dict_keyiterator.__iter__") (by kernel_rfl) rfl (by decide +kernel) (by kernel_rfl)
theorem pyIter_itemiter {prog : Program} {w : World} {A : Around} {E : Value → Shared → Prop} {s : Shared} {it d : Addr} {i n ep : Nat} {ok ov : Value} {Q : Value → Shared → Prop} (hit : IsItemIter s.heap it d i n ep ok ov) (h : Q (.ref it) s) : wpAny (model prog w) A (pyIter (.ref it)) Q E s := by
  have hT : s.TypeIs (.ref it) "dict_itemiterator" := ⟨_, hit, rfl⟩
  refine wpAny_pyIter_slot hT PySem.F.slot_dict_itemiterator_iter (wpAny_call_entry PySem.F.slot_dict_itemiterator_iter hT entry_itemiter_iter ?_ (PySem.F.args_dict_itemiterator_iter_1 _))
  show wpAny _ _ (ret (.ref it)) _ _ s
  exact wpAny_pure ⟨_, rfl, "dict_itemiterator", _, hT, PySem.F.slot_dict_itemiterator_next.lookup, h⟩
theorem turn_itemsD {P : Program} {w : World} {K : PySem.W.Frag} {es : List Expr} {kk : Nat} {pos : Pos} {d it : Addr} {o : Obj} {kvs : List (Key × V)} {de : Array DictEntry} {ep : Nat} (hd : o.data = .dict de ep) (hne : d ≠ it) :
    Turn P w K (.Tuple es kk pos) (Itd d o kvs) [it] it (fun i h => ∃ ok ov, IsItemIter h it d i kvs.length ep ok ov) where
  mem := by simp
  obj := fun i h st b hb => by
    obtain ⟨ok, ov, a1⟩ := st
    rw [List.mem_singleton.mp hb]
    exact ⟨_, a1, fun v e => by cases e⟩
  keep := fun i h h' st kp => by
    obtain ⟨ok, ov, a1⟩ := st
    exact ⟨ok, ov, kp it (by simp) _ a1⟩
  item := by
    intro X hP hw hK hc k pins s σ H E I hf st hg
    subst hP hw hK
    obtain ⟨hfz, hlt⟩ := hg
    obtain ⟨ok, ov, hit⟩ := st
    obtain ⟨hgo, z, hsm, vs, rel, o2, es2, ep2, e2, c2, d2, k2, p2, n2⟩ := I.hok d _ hfz
    rw [hgo] at e2; cases e2
    rw [hd] at d2; cases d2
    obtain ⟨⟨ky, x⟩, hx⟩ : ∃ p, kvs[k]? = some p := ⟨kvs[k], List.getElem?_eq_getElem hlt⟩
    obtain ⟨u, hu, ru⟩ := rel.get hx
    have hl : kvs.length = vs.length := rel.length
    rw [hl] at hit
    refine wpAny_pyNext_items_item (knd := mixKind X.prog X.w) hit ⟨_, _, hgo, c2, hd, k2, p2, n2⟩ hu fun key g hk hout hnew hsz kp => ⟨_, rfl, ?_⟩
    refine wpAny_letOwnedTupleGo_items hout fun g' z' b' => ?_
    have fi := hf it (by simp)
    have nT : H s.heap.objs.size = none := I.hok.fresh (Nat.le_refl _)
    have kp' : ∀ c o, c ≠ it → s.heap.get? c = some o → g'.get? c = some o := fun c o n1 e => b'.extBut _ _ n1 (kp c o n1 e)
    have ene : s.heap.objs.size ≠ it := Nat.ne_of_gt (Heap.lt_size hit)
    have new' := b'.extBut _ _ ene hnew
    have trk : ∀ b o, H b = some o → b ≠ it := fun b o e => ne_of_none e fi.1
    have I1 : Inv X pins σ (upd H s.heap.objs.size (.tup [kV ky, x])) { s with heap := g' } := by
      refine I.step (g' := s.gens) (d' := s.drawn) (t' := s.toks) (ch := [it]) (fun b hb => ?_) (fun b o _ _ hc e _ => ?_) (fun b o _ _ hc e _ => ?_) (fun b o hc e n => ?_) (fun b o hc e => ?_) (fun b xs e => ?_) (fun b o u e => ?_) (fun b ps e => ⟨#[], ?_⟩) (fun m hm => ?_) (fun b o e => ?_) I.bare
      · rw [List.mem_singleton.mp hb]
        exact ⟨fi.2.2.2.1, fi.2.1, fi.2.2.2.2.1, fi.2.2.2.2.2⟩
      · exact kp' b o (by simpa using hc) e
      · exact ⟨o.slots, kp' b o (by simpa using hc) e⟩
      · rw [upd_ne (Nat.ne_of_lt (Heap.lt_size e))]; exact n
      · exact ⟨o, kp' b o (by simpa using hc) e⟩
      · rw [upd_ne (ne_of_none e nT)]; exact e
      · rw [upd_ne (ne_of_none e nT)]; exact e
      · rw [upd_ne (ne_of_none e nT), e]; simp
      · obtain ⟨o, es, ep, ho, r⟩ := hm
        exact ⟨o, es, ep, kp' _ o (Ne.symm fi.2.1) ho, r⟩
      · by_cases hb : b = s.heap.objs.size
        · subst hb
          rw [upd_same] at e
          cases e
          exact ⟨by show 2 ≤ sizeLine; rw [sizeLine_eq]; decide, [key, u], .cons (key_rel hk) (.cons ru .nil), ⟨_, new', rfl, 0, rfl⟩⟩
        · rw [upd_ne hb] at e
          refine (I.hok b o e).stay (fun c v' hcc r => ?_) (fun c r => by rw [upd_ne (ne_of_none r nT)]; exact r) fun c xs r => by rw [upd_ne (ne_of_none r nT)]; exact r
          rcases hcc with rfl | hcc
          · exact kp' c v' (trk c o e) r
          · exact kp' c v' (trk c _ hcc) r
    refine ⟨.ref s.heap.objs.size, _, I1, rfl, ⟨_, ky, x, rfl, nT, rfl, hx⟩, ⟨key, u, by rw [hl]; exact z'⟩, fun b hb => ?_⟩
    rw [List.mem_singleton.mp hb, upd_ne (Ne.symm ene)]
    exact fi.1
  done := by
    intro X hP hw hK hc k pins s σ H E I hf st hg
    subst hP hw hK
    obtain ⟨hfz, hend⟩ := hg
    obtain ⟨ok, ov, hit⟩ := st
    obtain ⟨hgo, z, hsm, vs, rel, o2, es2, ep2, e2, c2, d2, k2, p2, n2⟩ := I.hok d _ hfz
    rw [hgo] at e2; cases e2
    rw [hd] at d2; cases d2
    have hl : kvs.length = vs.length := rel.length
    rw [hl] at hit
    refine wpAny_pyNext_items_end (knd := mixKind X.prog X.w) (I.ok.hd hc) hit ⟨_, _, hgo, c2, hd, k2, p2, n2⟩ (List.getElem?_eq_none (by omega)) fun g eb => ⟨rfl, ?_⟩
    have fi := hf it (by simp)
    exact I.turned (t' := s.toks) (fun b o nb e => eb b o nb e) fi.1 fi.2.1 fi.2.2.2.1 fi.2.2.2.2.1 fi.2.2.2.2.2
  self := fun A i s Q E st h => by
    obtain ⟨ok, ov, hit⟩ := st
    exact pyIter_itemiter hit h
section
variable {X : Cx}
def iItemsD (to : TE) : TI := fun σ H R => to σ H fun x H1 => ∃ (d : Addr) (kvs : List (Key × V)), x = .ref d ∧ ((H1 d = some (.dK kvs) ∧ ∀ o, R (Itd d o kvs) (upd H1 d (.frz o (.dK kvs)))) ∨ ∃ o, H1 d = some (.frz o (.dK kvs)) ∧ R (Itd d o kvs) H1)
theorem pi_itemsD {e : Expr} {te : TE} {apos cpos : Pos} {es : List Expr} {kk : Nat} {tp : Pos} (he : PE X e te)
    (hbase : attributeBase e "items" X.env (eval e X.env) = eval e X.env := by rfl) (hline : (apos.endLine == cpos.line) = true := by rfl) :
    PI X (.Tuple es kk tp) (.Call (.Attribute e "items" apos) [] [] cpos) (iItemsD te) := by
  intro pins s σ H R I h
  refine wpAny_Call_method0_late hbase hline (thn (he pins s σ H _ I h) fun v s1 ⟨y, H1, I1, r1, d, kvs, ey, q⟩ => ?_)
  subst ey
  cases r1
  have rd : Rd H1 d (.dK kvs) := by
    rcases q with ⟨q, _⟩ | ⟨o, q, _⟩
    · exact .inl q
    · exact .inr ⟨o, q⟩
  obtain ⟨z, hsys, vs, rel, o, es1, ep, e1, ex, e2, e3⟩ := dk_rd I1.hok rd
  have hT : s1.TypeIs (.ref d) "dict" := ⟨o, e1, ex.1⟩
  refine ⟨"dict", "dict.items", F.plainAttrs_dict, F.slot_dict_items, F.type_dict_items, hT, fun a e => by cases e; exact ⟨o, e1, ex.2.1⟩, ?_⟩
  refine Calls.callWith_builtin rfl (PySem.evalArgs_none ?_)
  refine call_meetsIn F.slot_dict_items hT F.entry_dict_items (F.args_dict_items_1 _) (meets_dict_items (mixKind X.prog X.w) d hsys) ⟨⟨vs, o, es1, ep, e1, ex, e2, e3⟩, ?_⟩
  obtain ⟨H2, I2, fz, r⟩ : ∃ H2, Inv X pins σ H2 s1 ∧ H2 d = some (.frz o (.dK kvs)) ∧ R (Itd d o kvs) H2 := by
    rcases q with ⟨q, r⟩ | ⟨o', q, r⟩
    · exact ⟨_, I1.frozen q e1, upd_same, r o⟩
    · have : o' = o := by
        have := (I1.hok d _ q).1
        rw [e1] at this; cases this; rfl
      subst this
      exact ⟨H1, I1, q, r⟩
  have I3 : Inv X pins σ H2 { s1 with heap := s1.heap.push { cls := .type "dict_items", data := .fields #[.ref d] } } := I2.kept (t' := s1.toks) fun b o e => Heap.get?_push_of_some _ e
  have hm2 : ({ s1 with heap := s1.heap.push { cls := .type "dict_items", data := .fields #[.ref d] } } : Shared).heap.DictAt (mixKind X.prog X.w) d vs ep := ⟨o, es1, Heap.get?_push_of_some _ e1, ex, e2, e3⟩
  refine wpAny_pyIter_items (knd := mixKind X.prog X.w) (d := d) (kvs := vs) (ep := ep) ⟨_, Heap.get?_push_size _ rfl, rfl, rfl⟩ hm2 ?_
  have zz : (s1.heap.push { cls := .type "dict_items", data := .fields #[.ref d] }).objs.size = s1.heap.objs.size + 1 := Heap.size_push _ _
  refine ⟨_, _, _, _, H2, rfl, I3.kept (t' := s1.toks) fun b o e => Heap.get?_push_of_some _ e, turn_itemsD (o := o) (kvs := kvs) e2 ?_, ⟨.none, .none, ?_⟩, fun b hb => ?_, r⟩
  · have := Heap.lt_size e1
    show d ≠ (s1.heap.push { cls := .type "dict_items", data := .fields #[.ref d] }).objs.size
    rw [zz]
    exact Nat.ne_of_lt (Nat.lt_succ_of_lt this)
  · rw [rel.length]
    exact Heap.get?_push_size _ rfl
  · have e : b = (s1.heap.push { cls := .type "dict_items", data := .fields #[.ref d] }).objs.size := by simpa using hb
    subst e
    exact I3.fpOk (Nat.le_refl _) (I3.hok.fresh (Nat.le_refl _))
theorem for_itemsD {d : Addr} {o : Obj} {kvs : List (Key × V)} {g : TG} {tb : TS} {D : Ends} {σ : St} {H : Hp} (Pv : Nat → St → Hp → Prop) (h0 : Pv 0 σ H) (hz : ∀ i σ H, Pv i σ H → H d = some (.frz o (.dK kvs)))
    (hs : ∀ i T k x σ H, kvs[i]? = some (k, x) → Pv i σ H → H T = none → g (.ref T) σ (upd H T (.tup [kV k, x])) fun σ2 H2 => tb { D with nx := Pv (i + 1), ct := Pv (i + 1), bk := D.nx } σ2 H2) (hd : ∀ σ H, Pv kvs.length σ H → D.nx σ H) :
    ∃ W : Nat → Nat → St → Hp → Prop, (∃ m, W 0 m σ H) ∧ ∀ i m σ H, W i m σ H →
      ((Itd d o kvs).stop i H ∧ D.nx σ H) ∨ ((Itd d o kvs).go i H ∧ ∃ N : St → Hp → Prop, (∀ σ' H', N σ' H' → ∃ m', m' < m ∧ W (i + 1) m' σ' H') ∧ ∀ x H', (Itd d o kvs).yld i H x H' → g x σ H' fun σ2 H2 => tb { D with nx := N, ct := N, bk := D.nx } σ2 H2) := by
  refine ⟨fun i m σ H => m = kvs.length - i ∧ i ≤ kvs.length ∧ Pv i σ H, ⟨kvs.length, by simp, Nat.zero_le _, h0⟩, ?_⟩
  rintro i m σ H ⟨rfl, hi, p⟩
  by_cases hlt : i < kvs.length
  · refine .inr ⟨⟨hz i σ H p, hlt⟩, Pv (i + 1), fun σ' H' p' => ⟨kvs.length - (i + 1), by omega, rfl, hlt, p'⟩, fun v H' y => ?_⟩
    obtain ⟨T, k, x, rfl, hT, rfl, hx⟩ := y
    exact hs i T k x σ H hx p hT
  · have e : i = kvs.length := by omega
    subst e
    exact .inl ⟨⟨hz _ σ H p, Nat.le_refl _⟩, hd σ H p⟩
end
end L2

set_option Elab.async false
set_option linter.all false
set_option maxRecDepth 100000
set_option maxHeartbeats 4000000
namespace L2
open PySem PySem.Spec PyProof.Rows
section
variable {X : Cx} {pos : Pos}
end
end L2

set_option Elab.async false
set_option linter.all false
set_option maxRecDepth 100000
set_option maxHeartbeats 4000000
namespace L2
open PySem PySem.Spec PyProof.Rows
section
variable {X : Cx} {x : Str} {C : Addr} {bw : List Value} {body suite : List Stmt} {b0 : Stmt} {np hp pos : Pos} {tb : XS → TS} {ts : TS}
end
end L2

set_option Elab.async false
set_option linter.all false
set_option maxRecDepth 100000
set_option maxHeartbeats 4000000
namespace L2
open PySem PySem.Spec PyProof.Rows
section
variable {prog : Program} {w : World} {A : Around} {E : Value → Shared → Prop} {s : Shared}
end
section
variable {X : Cx}
/-! all and any of a list of truths -/
end
end L2

set_option Elab.async false
set_option linter.all false
set_option maxRecDepth 100000
set_option maxHeartbeats 4000000
namespace L2
open PySem PySem.Spec PyProof.Rows
section
variable {X : Cx} {es : List Expr} {kk : Nat} {tpos : Pos}
end
end L2

set_option Elab.async false
set_option linter.all false
set_option maxRecDepth 100000
set_option maxHeartbeats 4000000
namespace L2
open PySem PySem.Spec PyProof.Rows
end L2

set_option Elab.async false
set_option linter.all false
set_option maxRecDepth 100000
set_option maxHeartbeats 4000000
namespace L2
open PySem PySem.Spec PyProof.Rows
/-! sorted of a list and of a tuple of ints -/
section
variable {prog : Program} {w : World} {A : Around} {E : Value → Shared → Prop} {s : Shared}
end
section
variable {X : Cx}
end
end L2

set_option Elab.async false
set_option linter.all false
set_option maxRecDepth 100000
set_option maxHeartbeats 4000000
namespace L2
open PySem PySem.Spec PyProof.Rows
/-! a set's table: its places rise, and below finds them -/
def Rising (xs : Array Nat) : Prop := ∀ i j, i < j → j < xs.size → xs.getD i 0 < xs.getD j 0
theorem getD_any {xs : Array Nat} {i d e : Nat} (h : i < xs.size) : xs.getD i d = xs.getD i e := by
  rw [Array.getD_eq_getD_getElem?, Array.getD_eq_getD_getElem?, Array.getElem?_eq_getElem h]
  rfl
theorem below_go {xs : Array Nat} {j : Nat} (hr : Rising xs) : ∀ (fuel lo hi : Nat), lo ≤ hi → hi ≤ xs.size → hi - lo ≤ fuel → (∀ i, i < lo → xs.getD i 0 < j) → (∀ i, hi ≤ i → i < xs.size → j ≤ xs.getD i 0) →
    SetTable.below.go xs j fuel lo hi ≤ xs.size ∧ (∀ i, i < SetTable.below.go xs j fuel lo hi → xs.getD i 0 < j) ∧ ∀ i, SetTable.below.go xs j fuel lo hi ≤ i → i < xs.size → j ≤ xs.getD i 0
  | 0, lo, hi, h1, h2, h3, a, b => by
    have e : SetTable.below.go xs j 0 lo hi = lo := by unfold SetTable.below.go; rfl
    rw [e]
    exact ⟨by omega, a, fun i hi' => b i (by omega)⟩
  | fuel + 1, lo, hi, h1, h2, h3, a, b => by
    unfold SetTable.below.go
    by_cases hlt : lo < hi
    · rw [if_pos hlt]
      have m1 : (lo + hi) / 2 < hi := by omega
      have m0 : lo ≤ (lo + hi) / 2 := by omega
      have ms : (lo + hi) / 2 < xs.size := by omega
      dsimp only
      rw [getD_any (e := 0) ms]
      by_cases hc : xs.getD ((lo + hi) / 2) 0 < j
      · rw [if_pos hc]
        refine below_go hr fuel _ _ (by omega) h2 (by omega) (fun i hi' => ?_) b
        rcases Nat.lt_or_eq_of_le (Nat.lt_succ_iff.mp hi') with h | h
        · exact Nat.lt_trans (hr _ _ h ms) hc
        · rw [h]; exact hc
      · rw [if_neg hc]
        refine below_go hr fuel _ _ m0 (by omega) (by omega) a (fun i hi' his => ?_)
        rcases Nat.lt_or_eq_of_le hi' with h | h
        · exact Nat.le_trans (Nat.le_of_not_lt hc) (Nat.le_of_lt (hr _ _ h his))
        · rw [← h]; exact Nat.le_of_not_lt hc
    · rw [if_neg hlt]
      exact ⟨by omega, a, fun i hi' => b i (by omega)⟩
theorem below_spec {xs : Array Nat} (hr : Rising xs) (j : Nat) : SetTable.below xs j ≤ xs.size ∧ (∀ i, i < SetTable.below xs j → xs.getD i 0 < j) ∧ ∀ i, SetTable.below xs j ≤ i → i < xs.size → j ≤ xs.getD i 0 :=
  below_go hr xs.size 0 xs.size (Nat.zero_le _) (Nat.le_refl _) (by omega) (fun i h => absurd h (Nat.not_lt_zero _)) fun i h h' => absurd h' (by omega)
theorem below_zero {xs : Array Nat} (hr : Rising xs) : SetTable.below xs 0 = 0 := by
  obtain ⟨_, a, _⟩ := below_spec hr 0
  cases e : SetTable.below xs 0 with
  | zero => rfl
  | succ n => rw [e] at a; exact absurd (a 0 (Nat.succ_pos _)) (Nat.not_lt_zero _)
theorem below_next {xs : Array Nat} (hr : Rising xs) {i : Nat} (hi : i < xs.size) : SetTable.below xs (xs.getD i 0 + 1) = i + 1 := by
  obtain ⟨p, a, b⟩ := below_spec hr (xs.getD i 0 + 1)
  rcases Nat.lt_trichotomy (SetTable.below xs (xs.getD i 0 + 1)) (i + 1) with h | h | h
  · have := b i (by omega) hi; omega
  · exact h
  · have h1 := a (i + 1) h
    have h2 := hr i (i + 1) (Nat.lt_succ_self _) (by omega)
    omega
/-- a place that is not yet taken is put where it rises -/
theorem rising_put {xs : Array Nat} (hr : Rising xs) {j : Nat} (hj : ∀ i, i < xs.size → xs.getD i 0 ≠ j) : Rising (SetTable.insertAt xs (SetTable.below xs j) j) := by
  obtain ⟨p, a, b⟩ := below_spec hr j
  generalize SetTable.below xs j = q at p a b ⊢
  have sz : (SetTable.insertAt xs q j).size = xs.size + 1 := by unfold SetTable.insertAt; simp; omega
  have at_ : ∀ i, i < xs.size + 1 → (SetTable.insertAt xs q j).getD i 0 = if i < q then xs.getD i 0 else if i = q then j else xs.getD (i - 1) 0 := by
    intro i hi
    unfold SetTable.insertAt
    simp only [Array.getD_eq_getD_getElem?, Array.getElem?_append, Array.getElem?_push, Array.getElem?_extract, Array.size_push, Array.size_extract]
    have m : min q xs.size = q := Nat.min_eq_left p
    simp only [m, Nat.sub_zero, Nat.min_self, Nat.zero_add]
    rcases Nat.lt_trichotomy i q with h | h | h
    · rw [if_pos (show i < q + 1 by omega), if_neg (show ¬ i = q by omega), if_pos h, if_pos h]
    · subst h
      rw [if_pos (Nat.lt_succ_self _), if_pos rfl, if_neg (Nat.lt_irrefl _), if_pos rfl]
      rfl
    · rw [if_neg (show ¬ i < q + 1 by omega), if_pos (show i - (q + 1) < xs.size - q by omega), if_neg (show ¬ i < q by omega), if_neg (show ¬ i = q by omega), show q + (i - (q + 1)) = i - 1 by omega]
  intro i k hik hk
  rw [sz] at hk
  rw [at_ i (by omega), at_ k hk]
  by_cases h1 : i < q
  · rw [if_pos h1]
    by_cases h2 : k < q
    · rw [if_pos h2]; exact hr i k hik (by omega)
    · rw [if_neg h2]
      by_cases h3 : k = q
      · rw [if_pos h3]; exact a i h1
      · rw [if_neg h3]; exact Nat.lt_of_lt_of_le (a i h1) (b (k - 1) (by omega) (by omega))
  · rw [if_neg h1, if_neg (show ¬ k < q by omega), if_neg (show ¬ k = q by omega)]
    by_cases h3 : i = q
    · rw [if_pos h3]
      have := b (k - 1) (by omega) (by omega)
      have := hj (k - 1) (by omega)
      omega
    · rw [if_neg h3]; exact hr (i - 1) (k - 1) (by omega) (by omega)
theorem rising_range (n : Nat) : Rising (Array.range n) := by
  intro i j hij hj
  rw [Array.size_range] at hj
  simp [Array.getD_eq_getD_getElem?, Array.getElem?_range, hj, show i < n by omega]
  omega
end L2

set_option Elab.async false
set_option linter.all false
set_option maxRecDepth 100000
set_option maxHeartbeats 4000000
namespace L2
open PySem PySem.Spec PyProof.Rows
/-! what an added item leaves of a set's table -/
structure TabOk (t : SetTable) : Prop where
  dum : t.dummies = #[]
  rise : Rising t.place
  mask : 7 ≤ t.mask
theorem has_nil (j : Nat) : SetTable.has #[] j = false := by unfold SetTable.has; simp
theorem not_taken {t : SetTable} (o : TabOk t) {j : Nat} (h : t.slot j = .empty) : ∀ i, i < t.place.size → t.place.getD i 0 ≠ j := by
  intro i hi e
  have hb : SetTable.below t.place j = i := by
    obtain ⟨p, a, b⟩ := below_spec o.rise j
    rcases Nat.lt_trichotomy (SetTable.below t.place j) i with h | h | h
    · have := b _ (Nat.le_refl _) (by omega)
      have := o.rise _ _ h hi
      omega
    · exact h
    · have := a i h; omega
  unfold SetTable.slot at h
  dsimp only at h
  rw [hb, if_pos] at h
  · cases h
  · rw [Array.getD_eq_getD_getElem?, Array.getElem?_eq_getElem hi] at e
    rw [Array.getElem?_eq_getElem hi, ← e]
    simp
theorem adv_dummy (t : SetTable) (p : SetTable.Probe) : (t.advance p).dummy = p.dummy := by
  unfold SetTable.advance
  split <;> rfl
theorem probe_empty {t : SetTable} (hd : t.dummies = #[]) {h : Int} {j : Nat} {d : Option Nat} : ∀ (fuel : Nat) (p : SetTable.Probe), p.dummy = none → SetTable.probe.go t (fun _ => h + 1) h fuel p = some (.empty j d) → t.slot j = .empty ∧ d = none
  | 0, p, _, e => by unfold SetTable.probe.go at e; cases e
  | fuel + 1, p, hp, e => by
    unfold SetTable.probe.go at e
    cases es : t.slot p.j with
    | empty =>
      rw [es] at e
      dsimp only at e
      injection e with e
      injection e with e1 e2
      rw [← e1, ← e2]
      exact ⟨es, hp⟩
    | dummy =>
      unfold SetTable.slot at es
      dsimp only at es
      rw [hd, has_nil] at es
      split at es
      · cases es
      · simp at es
    | live i =>
      rw [es] at e
      dsimp only at e
      rw [if_neg (by simp; omega)] at e
      exact probe_empty hd fuel _ (by rw [adv_dummy]; exact hp) e
theorem free_empty {t : SetTable} (hd : t.dummies = #[]) {h : Int} {slot : Nat} {wd : Bool} (e : t.freeSlot h = some (slot, wd)) : t.slot slot = .empty := by
  unfold SetTable.freeSlot SetTable.probe at e
  split at e
  · rename_i j d hq
    obtain ⟨a, b⟩ := probe_empty hd _ _ rfl hq
    rw [b] at e
    injection e with e
    injection e with e1 _
    rw [← e1]
    exact a
  · cases e
theorem standIn_ok {t : SetTable} {n : Nat} (hn : 1 ≤ n) : TabOk (t.standIn n) := ⟨rfl, rising_range n, by show 7 ≤ 4 * n + 4; omega⟩
theorem layNew_ok {t : SetTable} (o : TabOk t) (es : Array (Int × Value)) (h : Int) (x : Value) : TabOk (layNew t es h x).2.1 ∧ (layNew t es h x).2.1.led = t.led := by
  unfold layNew
  cases e : t.freeSlot h with
  | none => exact ⟨standIn_ok (Nat.succ_pos _), rfl⟩
  | some q =>
    obtain ⟨slot, wd⟩ := q
    have hs := free_empty o.dum e
    have ok' : TabOk (t.put slot).1 := by
      refine ⟨?_, rising_put o.rise (not_taken o hs), o.mask⟩
      show (if SetTable.has t.dummies slot then _ else t.dummies) = #[]
      rw [o.dum, has_nil]
      rfl
    dsimp only
    have sz : 1 ≤ (SetTable.insertAt es (t.put slot).2 (h, x)).size := by unfold SetTable.insertAt; simp; omega
    unfold SetTable.orStandIn
    split
    · exact ⟨ok', rfl⟩
    · exact ⟨standIn_ok sz, rfl⟩
end L2

set_option Elab.async false
set_option linter.all false
set_option maxRecDepth 100000
set_option maxHeartbeats 4000000
namespace L2
open PySem PySem.Spec PyProof.Rows
/-! a small set stays plain: a free slot is found -/
end L2

set_option Elab.async false
set_option linter.all false
set_option maxRecDepth 100000
set_option maxHeartbeats 4000000
namespace L2
open PySem PySem.Spec PyProof.Rows
/-! a set of at most four ints, all of them of a given row; its table as it lies -/
def byT (w : World) : Bool := w.params.followText "set-order"
section
variable {prog : Program} {w : World} {A : Around} {E : Value → Shared → Prop} {s : Shared}
end
end L2

set_option Elab.async false
set_option linter.all false
set_option maxRecDepth 100000
set_option maxHeartbeats 4000000
namespace L2
open PySem PySem.Spec PyProof.Rows
section
variable {prog : Program} {w : World} {A : Around} {R : Result → Shared → Prop} {I : Addr} {fp wr : List Addr} {G : Array GenState → Array GenState → Prop} {n : Nat} {P : Nat → Value → Prop} {St : Nat → Shared → Prop}
end
section
variable {prog : Program} {w : World} {A : Around} {E : Value → Shared → Prop} {s : Shared}
def newS (w : World) : Obj := { cls := .type "set", dict := none, data := .set #[] 0 (.fresh 0 0 (!byT w)) }
theorem new_L (a : Value) {Q₁ : Value → Shared → Prop} (h : Q₁ (.ref s.heap.objs.size) { s with heap := s.heap.push (newS w) }) :
    codeAny (model prog w) A (.call (.builtin "set.__new__") ⟨[.type "set", a], []⟩) (wants Q₁ E) s := by
  refine codeAny_of_tree ?_
  show wpAny _ A.in1 (do checkBuiltinCall "set.__new__" ⟨[.type "set", a], []⟩; again (.builtin "set.__new__" ⟨[.type "set", a], []⟩)) _ _ s
  refine wpAny_bind (wpAny_of_eq (F.newCall_set_1 a) (wpAny_pure ⟨plainId_quiet F.plain_set_new _, codeAny_builtin F.entry_set_new ?_⟩))
  rw [Around.under_plainId F.plain_set_new _]
  unfold Builtin.«set.__new__» Builtin.Frozenset.newClass
  have hsub := sub_set_self
  obtain ⟨hp, g, d, tk, os⟩ := s
  dsimp only
  wp_walk
  refine wpAny_askSetting (wpAny_pure ?_)
  dsimp only
  simp only [newObj]
  refine wpAny_bind (wpAny_alloc (wpAny_pure ?_))
  exact wpAny_pure h
end
end L2

set_option Elab.async false
set_option linter.all false
set_option maxRecDepth 100000
set_option maxHeartbeats 4000000
namespace L2
open PySem PySem.Spec PyProof.Rows
section
variable {prog : Program} {w : World} {A : Around} {E : Value → Shared → Prop} {s : Shared}
end
end L2

set_option Elab.async false
set_option linter.all false
set_option maxRecDepth 100000
set_option maxHeartbeats 1000000
namespace L2
open PySem PySem.Spec PyProof.Rows
/-! ### the model's sort at any length: the search -/
def gallop' : Bool → Keyed → Array Keyed → Nat → Nat → Nat → StateT SortSt Sem (Option Nat) := sortPriv% PySem.Builtin.gallop
/-- what a comparison tells -/
structure Cm (M : Model) (A : Around) (E : Value → Shared → Prop) (s : Shared) {O : KeyOrd} (κ : Keyed → O.α) (ok : Keyed → Prop) (kd : SortKind) : Prop where
  lt : ∀ {st : SortSt} {x y : Keyed} {Q : Option Bool → SortSt → Prop}, kindOf st = kd → failedOf st = none → ok x → ok y → Q (some (O.blt (κ x) (κ y))) st → wpS M A E s (lt' x y) Q st
def Sx (kd : SortKind) (st : SortSt) : Prop := kindOf st = kd ∧ failedOf st = none
section
variable {prog : Program} {w : World} {A : Around} {E : Value → Shared → Prop} {s : Shared} {O : KeyOrd} {κ : Keyed → O.α} {ok : Keyed → Prop} {kd : SortKind}
theorem wpS_elem {M : Model} {arr : Array Keyed} {i : Nat} {x : Keyed} {Q : Keyed → SortSt → Prop} {st : SortSt} (h : arr[i]? = some x) (q : Q x st) : wpS M A E s (elem' arr i) Q st := by
  rw [elem'_eq, h]; exact wpS_pure q
/-- the side of the key on which an item lies -/
def pb (κ : Keyed → O.α) (left : Bool) (key : Keyed) (arr : Array Keyed) (base i : Nat) : Bool := match arr[base + i]? with
  | some x => if left then O.blt (κ x) (κ key) else !(O.blt (κ key) (κ x))
  | none => false
theorem go_beyond (C : Cm (model prog w) A E s κ ok kd) {st : SortSt} (hs : Sx kd st) {left : Bool} {key : Keyed} {arr : Array Keyed} {base i : Nat} {Q : Option Bool → SortSt → Prop} (hk : ok key) (ha : ∀ x ∈ arr, ok x) (hi : base + i < arr.size)
    (q : Q (some (pb κ left key arr base i)) st) : wpS (model prog w) A E s (do
    let x ← elem' arr (base + i)
    if left then lt' x key else return (← lt' key x).map (!·)) Q st := by
  have hx : arr[base + i]? = some arr[base + i] := Array.getElem?_eq_getElem hi
  have hok : ok arr[base + i] := ha _ (Array.getElem_mem hi)
  refine wpS_bind (wpS_elem hx ?_)
  unfold pb at q
  rw [hx] at q
  cases left with
  | true =>
    simp only [if_true] at q ⊢
    exact C.lt hs.1 hs.2 hok hk q
  | false =>
    simp only [Bool.false_eq_true, if_false] at q ⊢
    exact wpS_bind (C.lt hs.1 hs.2 hk hok (wpS_pure q))
theorem go_gallop (C : Cm (model prog w) A E s κ ok kd) {st : SortSt} (hs : Sx kd st) {left : Bool} {key : Keyed} {arr : Array Keyed} {base n hint : Nat} {Q : Option Nat → SortSt → Prop} (hk : ok key) (ha : ∀ x ∈ arr, ok x) (hsz : base + n ≤ arr.size) (hh : hint < n)
    (mono : ∀ i j, i ≤ j → j < n → pb κ left key arr base j = true → pb κ left key arr base i = true)
    (q : ∀ k, k ≤ n → (∀ i, i < k → pb κ left key arr base i = true) → (∀ i, k ≤ i → i < n → pb κ left key arr base i = false) → Q (some k) st) : wpS (model prog w) A E s (gallop' left key arr base n hint) Q st := by
  refine wpS_bind (go_beyond C hs hk ha (by omega) ?_)
  dsimp only
  cases e0 : pb κ left key arr base hint with
  | true =>
    rw [if_pos rfl]
    refine wpS_bind (wpS_mono (wpS_forRange (fun x c st' => st' = st ∧ ∃ l o, c = (none, l, o) ∧ l < o ∧ x + 1 ≤ o ∧ l < n - hint ∧ pb κ left key arr base (hint + l) = true)
      (Q := fun c st' => st' = st ∧ ∃ l o, c = (none, l, o) ∧ l < o ∧ l < n - hint ∧ pb κ left key arr base (hint + l) = true ∧ (o ≥ n - hint ∨ pb κ left key arr base (hint + o) = false)) (fun x c st' _ hx hI => ?_) (fun c st' hI => ?_) ⟨rfl, 0, 1, rfl, by omega, by omega, by omega, e0⟩) ?_)
    · obtain ⟨rfl, l, o, rfl, a1, a2, a3, a4⟩ := hI
      dsimp only
      by_cases c : o ≥ n - hint
      · rw [if_pos c]; exact wpS_pure ⟨rfl, l, o, rfl, a1, a3, a4, .inl c⟩
      rw [if_neg c]
      refine wpS_bind (go_beyond C hs hk ha (by omega) ?_)
      dsimp only
      cases e : pb κ left key arr base (hint + o) with
      | false =>
        rw [if_pos (by simp)]
        exact wpS_pure ⟨rfl, l, o, rfl, a1, a3, a4, .inr e⟩
      | true =>
        rw [if_neg (by simp)]
        exact wpS_pure ⟨rfl, o, _, rfl, by omega, by omega, by omega, e⟩
    · obtain ⟨rfl, l, o, rfl, a1, a2, a3, a4⟩ := hI
      exact ⟨rfl, l, o, rfl, a1, a3, a4, .inl (by omega)⟩
    · rintro c st' ⟨rfl, l, o, rfl, a1, a3, a4, a5⟩
      dsimp only
      obtain ⟨lo, hlo⟩ : ∃ lo, lo = hint + l + 1 := ⟨_, rfl⟩
      obtain ⟨hi, hhi⟩ : ∃ hi, hi = hint + min o (n - hint) := ⟨_, rfl⟩
      rw [← hlo, ← hhi]
      have h1 : lo ≤ hi := by omega
      have h2 : hi ≤ n := by omega
      have h3 : ∀ i, i < lo → pb κ left key arr base i = true := fun i ci => mono i (hint + l) (by omega) (by omega) a4
      have h4 : ∀ i, hi ≤ i → i < n → pb κ left key arr base i = false := fun i c1 c2 => by
        rcases a5 with a5 | a5
        · omega
        · by_cases co : o ≥ n - hint
          · omega
          cases e2 : pb κ left key arr base i with
          | false => rfl
          | true => rw [mono _ i (by omega) c2 e2] at a5; cases a5
      clear hlo hhi a1 a3 a4 a5
      refine wpS_bind (wpS_mono (wpS_forRange (fun x c st2 => st2 = st' ∧ ∃ lo hi, c = (none, lo, hi) ∧ lo ≤ hi ∧ hi ≤ n ∧ hi - lo ≤ n - x ∧ (∀ i, i < lo → pb κ left key arr base i = true) ∧ ∀ i, hi ≤ i → i < n → pb κ left key arr base i = false)
        (Q := fun c st2 => st2 = st' ∧ ∃ lo hi, c = (none, lo, hi) ∧ hi ≤ lo ∧ hi ≤ n ∧ (∀ i, i < lo → pb κ left key arr base i = true) ∧ ∀ i, hi ≤ i → i < n → pb κ left key arr base i = false) (fun x c st2 _ hx hI => ?_) (fun c st2 hI => ?_) ⟨rfl, lo, hi, rfl, h1, h2, by omega, h3, h4⟩) ?_)
      · obtain ⟨rfl, lo, hi, rfl, a1, a2, a3, a4, a5⟩ := hI
        dsimp only
        by_cases c : lo ≥ hi
        · rw [if_pos c]; exact wpS_pure ⟨rfl, lo, hi, rfl, c, a2, a4, a5⟩
        rw [if_neg c]
        refine wpS_bind (go_beyond C hs hk ha (by omega) ?_)
        dsimp only
        cases e : pb κ left key arr base (lo + (hi - lo) / 2) with
        | true =>
          rw [if_pos rfl]
          exact wpS_pure ⟨rfl, _, hi, rfl, by omega, a2, by omega, fun i ci => mono i (lo + (hi - lo) / 2) (by omega) (by omega) e, a5⟩
        | false =>
          rw [if_neg Bool.false_ne_true]
          refine wpS_pure ⟨rfl, lo, _, rfl, by omega, by omega, by omega, a4, fun i c1 c2 => ?_⟩
          cases e2 : pb κ left key arr base i with
          | false => rfl
          | true => rw [mono _ i c1 c2 e2] at e; cases e
      · obtain ⟨rfl, lo, hi, rfl, a1, a2, a3, a4, a5⟩ := hI
        exact ⟨rfl, lo, hi, rfl, by omega, a2, a4, a5⟩
      · rintro c st2 ⟨rfl, lo, hi, rfl, a1, a2, a4, a5⟩
        exact wpS_pure (q hi a2 (fun i ci => a4 i (by omega)) a5)
  | false =>
    rw [if_neg Bool.false_ne_true]
    refine wpS_bind (wpS_mono (wpS_forRange (fun x c st' => st' = st ∧ ∃ l o, c = (none, l, o) ∧ l < o ∧ x + 1 ≤ o ∧ l < hint + 1 ∧ pb κ left key arr base (hint - l) = false)
      (Q := fun c st' => st' = st ∧ ∃ l o, c = (none, l, o) ∧ l < o ∧ l < hint + 1 ∧ pb κ left key arr base (hint - l) = false ∧ (o ≥ hint + 1 ∨ pb κ left key arr base (hint - o) = true)) (fun x c st' _ hx hI => ?_) (fun c st' hI => ?_) ⟨rfl, 0, 1, rfl, by omega, by omega, by omega, e0⟩) ?_)
    · obtain ⟨rfl, l, o, rfl, a1, a2, a3, a4⟩ := hI
      dsimp only
      by_cases c : o ≥ hint + 1
      · rw [if_pos c]; exact wpS_pure ⟨rfl, l, o, rfl, a1, a3, a4, .inl c⟩
      rw [if_neg c]
      refine wpS_bind (go_beyond C hs hk ha (by omega) ?_)
      dsimp only
      cases e : pb κ left key arr base (hint - o) with
      | true =>
        rw [if_pos rfl]
        exact wpS_pure ⟨rfl, l, o, rfl, a1, a3, a4, .inr e⟩
      | false =>
        rw [if_neg (by simp)]
        exact wpS_pure ⟨rfl, o, _, rfl, by omega, by omega, by omega, e⟩
    · obtain ⟨rfl, l, o, rfl, a1, a2, a3, a4⟩ := hI
      exact ⟨rfl, l, o, rfl, a1, a3, a4, .inl (by omega)⟩
    · rintro c st' ⟨rfl, l, o, rfl, a1, a3, a4, a5⟩
      dsimp only
      obtain ⟨lo, hlo⟩ : ∃ lo, lo = hint + 1 - min o (hint + 1) := ⟨_, rfl⟩
      obtain ⟨hi, hhi⟩ : ∃ hi, hi = hint - l := ⟨_, rfl⟩
      rw [← hlo, ← hhi]
      have h1 : lo ≤ hi := by omega
      have h2 : hi ≤ n := by omega
      have h3 : ∀ i, i < lo → pb κ left key arr base i = true := fun i ci => by
        rcases a5 with a5 | a5
        · omega
        · by_cases co : o ≥ hint + 1
          · omega
          exact mono i (hint - o) (by omega) (by omega) a5
      have h4 : ∀ i, hi ≤ i → i < n → pb κ left key arr base i = false := fun i c1 c2 => by
        cases e2 : pb κ left key arr base i with
        | false => rfl
        | true => rw [mono (hint - l) i (by omega) c2 e2] at a4; cases a4
      clear hlo hhi a1 a3 a4 a5
      refine wpS_bind (wpS_mono (wpS_forRange (fun x c st2 => st2 = st' ∧ ∃ lo hi, c = (none, lo, hi) ∧ lo ≤ hi ∧ hi ≤ n ∧ hi - lo ≤ n - x ∧ (∀ i, i < lo → pb κ left key arr base i = true) ∧ ∀ i, hi ≤ i → i < n → pb κ left key arr base i = false)
        (Q := fun c st2 => st2 = st' ∧ ∃ lo hi, c = (none, lo, hi) ∧ hi ≤ lo ∧ hi ≤ n ∧ (∀ i, i < lo → pb κ left key arr base i = true) ∧ ∀ i, hi ≤ i → i < n → pb κ left key arr base i = false) (fun x c st2 _ hx hI => ?_) (fun c st2 hI => ?_) ⟨rfl, lo, hi, rfl, h1, h2, by omega, h3, h4⟩) ?_)
      · obtain ⟨rfl, lo, hi, rfl, a1, a2, a3, a4, a5⟩ := hI
        dsimp only
        by_cases c : lo ≥ hi
        · rw [if_pos c]; exact wpS_pure ⟨rfl, lo, hi, rfl, c, a2, a4, a5⟩
        rw [if_neg c]
        refine wpS_bind (go_beyond C hs hk ha (by omega) ?_)
        dsimp only
        cases e : pb κ left key arr base (lo + (hi - lo) / 2) with
        | true =>
          rw [if_pos rfl]
          exact wpS_pure ⟨rfl, _, hi, rfl, by omega, a2, by omega, fun i ci => mono i (lo + (hi - lo) / 2) (by omega) (by omega) e, a5⟩
        | false =>
          rw [if_neg Bool.false_ne_true]
          refine wpS_pure ⟨rfl, lo, _, rfl, by omega, by omega, by omega, a4, fun i c1 c2 => ?_⟩
          cases e2 : pb κ left key arr base i with
          | false => rfl
          | true => rw [mono _ i c1 c2 e2] at e; cases e
      · obtain ⟨rfl, lo, hi, rfl, a1, a2, a3, a4, a5⟩ := hI
        exact ⟨rfl, lo, hi, rfl, by omega, a2, a4, a5⟩
      · rintro c st2 ⟨rfl, lo, hi, rfl, a1, a2, a4, a5⟩
        exact wpS_pure (q hi a2 (fun i ci => a4 i (by omega)) a5)
end
end L2

set_option Elab.async false
set_option linter.all false
set_option maxRecDepth 100000
set_option maxHeartbeats 1000000
namespace L2
open PySem PySem.Spec PyProof.Rows
def mergeLo' : Array Keyed → Array Keyed → StateT SortSt Sem (Array Keyed) := sortPriv% PySem.Builtin.mergeLo
abbrev setGal (st : SortSt) (g : Nat) : SortSt := SortSt.mk' (kindOf st) (arrOf st) (pendingOf st) g (failedOf st)
section
variable {O : KeyOrd} (κ : Keyed → O.α)
def Srd (l : List Keyed) : Prop := l.Pairwise fun x y => O.kle (κ x) (κ y)
/-- a merge under way: what is put down, and what is left of either row -/
structure MI (L out a b : List Keyed) : Prop where
  perm : (out ++ a ++ b).Perm L
  so : Srd κ out
  sa : Srd κ a
  sb : Srd κ b
  oa : ∀ x ∈ out, ∀ y ∈ a, O.kle (κ x) (κ y)
  ob : ∀ x ∈ out, ∀ y ∈ b, O.kle (κ x) (κ y)
variable {κ}
theorem Srd.app {l r : List Keyed} : Srd κ (l ++ r) ↔ Srd κ l ∧ Srd κ r ∧ ∀ x ∈ l, ∀ y ∈ r, O.kle (κ x) (κ y) := List.pairwise_append
theorem MI.takeA {L out c a b : List Keyed} (m : MI κ L out (c ++ a) b) (h : ∀ x ∈ c, ∀ y ∈ b, O.kle (κ x) (κ y)) : MI κ L (out ++ c) a b := by
  obtain ⟨s1, s2, s3⟩ := Srd.app.mp m.sa
  refine ⟨by rw [List.append_assoc out c a]; exact m.perm, Srd.app.mpr ⟨m.so, s1, fun x hx y hy => m.oa x hx y (List.mem_append_left _ hy)⟩, s2, m.sb, fun x hx y hy => ?_, fun x hx y hy => ?_⟩
  · rcases List.mem_append.mp hx with hx | hx
    · exact m.oa x hx y (List.mem_append_right _ hy)
    · exact s3 x hx y hy
  · rcases List.mem_append.mp hx with hx | hx
    · exact m.ob x hx y hy
    · exact h x hx y hy
theorem MI.swap {L out a b : List Keyed} (m : MI κ L out a b) : MI κ L out b a :=
  ⟨((List.append_assoc out b a ▸ List.Perm.append_left out List.perm_append_comm : (out ++ b ++ a).Perm (out ++ (a ++ b))).trans (List.append_assoc out a b ▸ List.Perm.refl _)).trans m.perm, m.so, m.sb, m.sa, m.ob, m.oa⟩
theorem MI.takeB {L out c a b : List Keyed} (m : MI κ L out a (c ++ b)) (h : ∀ x ∈ c, ∀ y ∈ a, O.kle (κ x) (κ y)) : MI κ L (out ++ c) a b := (m.swap.takeA h).swap
/-- at the end -/
theorem MI.endA {L out a b : List Keyed} (m : MI κ L out a b) (h : ∀ x ∈ a, ∀ y ∈ b, O.kle (κ x) (κ y)) : Srd κ (out ++ a ++ b) ∧ (out ++ a ++ b).Perm L :=
  ⟨Srd.app.mpr ⟨Srd.app.mpr ⟨m.so, m.sa, m.oa⟩, m.sb, fun x hx y hy => by
    rcases List.mem_append.mp hx with hx | hx
    · exact m.ob x hx y hy
    · exact h x hx y hy⟩, m.perm⟩
end
section
variable {O : KeyOrd} {κ : Keyed → O.α}
theorem arr_at {a : Array Keyed} {i : Nat} (h : i < a.size) : ∃ x, a[i]? = some x ∧ a.toList.drop i = x :: a.toList.drop (i + 1) ∧ x ∈ a :=
  ⟨a[i], Array.getElem?_eq_getElem h, by rw [List.drop_eq_getElem_cons (by simpa using h)]; simp, Array.getElem_mem h⟩
theorem ext_toList (a : Array Keyed) (i j : Nat) : (a.extract i j).toList = (a.toList.drop i).take (j - i) := by
  rw [Array.toList_extract]
theorem ext_end (a : Array Keyed) (i : Nat) : (a.extract i).toList = a.toList.drop i := by
  rw [ext_toList]; exact List.take_of_length_le (by simp)
theorem ext_drop {a : Array Keyed} {i k : Nat} : a.toList.drop i = (a.extract i (i + k)).toList ++ a.toList.drop (i + k) := by
  rw [ext_toList, Nat.add_sub_cancel_left, ← List.drop_drop, List.take_append_drop]
theorem mem_ext {a : Array Keyed} {i k : Nat} {x : Keyed} (h : x ∈ (a.extract i (i + k)).toList) : ∃ j, j < k ∧ a[i + j]? = some x := by
  rw [ext_toList, Nat.add_sub_cancel_left] at h
  obtain ⟨j, hj⟩ := List.mem_iff_getElem?.mp h
  rw [List.getElem?_take] at hj
  split at hj
  · rename_i c
    refine ⟨j, c, ?_⟩
    rw [List.getElem?_drop] at hj
    simpa using hj
  · cases hj
theorem mem_drop {a : Array Keyed} {i : Nat} {x : Keyed} (h : x ∈ a.toList.drop i) : ∃ j, i + j < a.size ∧ a[i + j]? = some x := by
  obtain ⟨j, hj⟩ := List.mem_iff_getElem?.mp h
  rw [List.getElem?_drop] at hj
  have hl := (List.getElem?_eq_some_iff.mp hj).1
  exact ⟨j, by simpa using hl, by simpa using hj⟩
theorem Srd.get {a : Array Keyed} (h : Srd κ a.toList) {i j : Nat} {x y : Keyed} (hij : i ≤ j) (hx : a[i]? = some x) (hy : a[j]? = some y) : O.kle (κ x) (κ y) := by
  have hx' : a.toList[i]? = some x := by simpa using hx
  have hy' : a.toList[j]? = some y := by simpa using hy
  rcases Nat.lt_or_ge i j with c | c
  · obtain ⟨l1, e1⟩ := List.getElem?_eq_some_iff.mp hx'
    obtain ⟨l2, e2⟩ := List.getElem?_eq_some_iff.mp hy'
    have := List.pairwise_iff_getElem.mp h i j l1 l2 c
    rw [e1, e2] at this
    exact this
  · have : i = j := by omega
    subst this
    rw [hx] at hy; cases hy
    exact KeyOrd.kle_refl _
def Gd (κ : Keyed → O.α) (L : List Keyed) (r : Array Keyed) : Prop := Srd κ r.toList ∧ r.toList.Perm L
theorem MI.done {L : List Keyed} {out a b : Array Keyed} {ia ib : Nat} (m : MI κ L out.toList (a.toList.drop ia) (b.toList.drop ib)) (h : ib = b.size ∨ ia = a.size) : Gd κ L (out ++ a.extract ia ++ b.extract ib) := by
  unfold Gd
  rw [Array.toList_append, Array.toList_append, ext_end, ext_end]
  refine m.endA fun x hx y hy => ?_
  rcases h with h | h
  · rw [h, List.drop_of_length_le (by simp)] at hy; cases hy
  · rw [h, List.drop_of_length_le (by simp)] at hx; cases hx
theorem MI.last {L : List Keyed} {out a b : Array Keyed} {ia ib : Nat} (m : MI κ L out.toList (a.toList.drop ia) (b.toList.drop ib)) (h : ia + 1 = a.size) (h2 : ∀ y ∈ b, ∀ x, a[a.size - 1]? = some x → O.kle (κ y) (κ x)) : Gd κ L (out ++ b.extract ib ++ a.extract ia) := by
  unfold Gd
  rw [Array.toList_append, Array.toList_append, ext_end, ext_end]
  refine m.swap.endA fun y hy x hx => ?_
  obtain ⟨j, j1, j2⟩ := mem_drop hx
  obtain ⟨k, k1, k2⟩ := mem_drop hy
  exact h2 y (Array.mem_of_getElem? k2) x (by rw [← j2]; congr 1; omega)
theorem MI.pushB {L : List Keyed} {out a b : Array Keyed} {ia ib : Nat} {y : Keyed} (m : MI κ L out.toList (a.toList.drop ia) (b.toList.drop ib)) (hy : b.toList.drop ib = y :: b.toList.drop (ib + 1)) (h : ∀ x ∈ a.toList.drop ia, O.kle (κ y) (κ x)) : MI κ L (out.push y).toList (a.toList.drop ia) (b.toList.drop (ib + 1)) := by
  rw [Array.toList_push]
  rw [hy] at m
  exact MI.takeB (c := [y]) m (fun x hx z hz => by rw [List.mem_singleton.mp hx]; exact h z hz)
theorem MI.pushA {L : List Keyed} {out a b : Array Keyed} {ia ib : Nat} {y : Keyed} (m : MI κ L out.toList (a.toList.drop ia) (b.toList.drop ib)) (hy : a.toList.drop ia = y :: a.toList.drop (ia + 1)) (h : ∀ x ∈ b.toList.drop ib, O.kle (κ y) (κ x)) : MI κ L (out.push y).toList (a.toList.drop (ia + 1)) (b.toList.drop ib) := by
  rw [Array.toList_push]
  rw [hy] at m
  exact MI.takeA (c := [y]) m (fun x hx z hz => by rw [List.mem_singleton.mp hx]; exact h z hz)
theorem MI.chunkA {L : List Keyed} {out a b : Array Keyed} {ia ib k : Nat} (m : MI κ L out.toList (a.toList.drop ia) (b.toList.drop ib)) (h : ∀ x ∈ (a.extract ia (ia + k)).toList, ∀ y ∈ b.toList.drop ib, O.kle (κ x) (κ y)) : MI κ L (out ++ a.extract ia (ia + k)).toList (a.toList.drop (ia + k)) (b.toList.drop ib) := by
  rw [Array.toList_append]
  rw [ext_drop (a := a) (i := ia) (k := k)] at m
  exact m.takeA h
theorem MI.chunkB {L : List Keyed} {out a b : Array Keyed} {ia ib k : Nat} (m : MI κ L out.toList (a.toList.drop ia) (b.toList.drop ib)) (h : ∀ x ∈ (b.extract ib (ib + k)).toList, ∀ y ∈ a.toList.drop ia, O.kle (κ x) (κ y)) : MI κ L (out ++ b.extract ib (ib + k)).toList (a.toList.drop ia) (b.toList.drop (ib + k)) := by
  rw [Array.toList_append]
  rw [ext_drop (a := b) (i := ib) (k := k)] at m
  exact m.takeB h
theorem MI.headA {L out b : List Keyed} {a : Array Keyed} {ia : Nat} {x : Keyed} (m : MI κ L out (a.toList.drop ia) b) (hx : a.toList.drop ia = x :: a.toList.drop (ia + 1)) : ∀ z ∈ a.toList.drop ia, O.kle (κ x) (κ z) := by
  have := m.sa
  rw [hx] at this ⊢
  intro z hz
  rcases List.mem_cons.mp hz with rfl | hz
  · exact KeyOrd.kle_refl _
  · exact (List.pairwise_cons.mp this).1 z hz
theorem MI.headB {L out a : List Keyed} {b : Array Keyed} {ib : Nat} {x : Keyed} (m : MI κ L out a (b.toList.drop ib)) (hx : b.toList.drop ib = x :: b.toList.drop (ib + 1)) : ∀ z ∈ b.toList.drop ib, O.kle (κ x) (κ z) := m.swap.headA hx
theorem MI.size {L : List Keyed} {out a b : Array Keyed} {ia ib : Nat} (m : MI κ L out.toList (a.toList.drop ia) (b.toList.drop ib)) : out.size + (a.size - ia) + (b.size - ib) = L.length := by
  have := m.perm.length_eq
  simp only [List.length_append, List.length_drop, Array.length_toList] at this
  exact this
end
section
variable {prog : Program} {w : World} {A : Around} {E : Value → Shared → Prop} {s : Shared} {O : KeyOrd} {κ : Keyed → O.α} {ok : Keyed → Prop} {kd : SortKind}
theorem Sx.gal {st : SortSt} {g : Nat} (h : Sx kd st) : Sx kd (setGal st g) := h
/-- the search on the right of a key -/
theorem go_right (C : Cm (model prog w) A E s κ ok kd) {st : SortSt} (hs : Sx kd st) {key : Keyed} {arr : Array Keyed} {base n hint : Nat} {Q : Option Nat → SortSt → Prop} (hk : ok key) (ha : ∀ x ∈ arr, ok x) (hsz : base + n ≤ arr.size) (hh : hint < n)
    (srt : ∀ i j x y, base ≤ i → i ≤ j → j < base + n → arr[i]? = some x → arr[j]? = some y → O.kle (κ x) (κ y))
    (q : ∀ k, k ≤ n → (∀ j x, j < k → arr[base + j]? = some x → O.kle (κ x) (κ key)) → (∀ j x, k ≤ j → j < n → arr[base + j]? = some x → O.klt (κ key) (κ x)) → Q (some k) st) : wpS (model prog w) A E s (gallop' false key arr base n hint) Q st := by
  refine go_gallop C hs hk ha hsz hh (fun i j hij hj hp => ?_) fun k hk h1 h2 => q k hk (fun j x hj hx => ?_) (fun j x c1 c2 hx => ?_)
  · have xi : arr[base + i]? = some arr[base + i] := Array.getElem?_eq_getElem (by omega)
    have xj : arr[base + j]? = some arr[base + j] := Array.getElem?_eq_getElem (by omega)
    unfold pb at hp ⊢
    rw [xj] at hp
    rw [xi]
    simp only [Bool.false_eq_true, if_false, Bool.not_eq_true'] at hp ⊢
    exact KeyOrd.kle_trans (srt _ _ _ _ (by omega) (by omega) (by omega) xi xj) hp
  · have := h1 j hj
    unfold pb at this
    rw [hx] at this
    show O.blt (κ key) (κ x) = false
    simpa using this
  · have := h2 j c1 c2
    unfold pb at this
    rw [hx] at this
    show O.blt (κ key) (κ x) = true
    simpa using this
/-- the search on the left of a key -/
theorem go_left (C : Cm (model prog w) A E s κ ok kd) {st : SortSt} (hs : Sx kd st) {key : Keyed} {arr : Array Keyed} {base n hint : Nat} {Q : Option Nat → SortSt → Prop} (hk : ok key) (ha : ∀ x ∈ arr, ok x) (hsz : base + n ≤ arr.size) (hh : hint < n)
    (srt : ∀ i j x y, base ≤ i → i ≤ j → j < base + n → arr[i]? = some x → arr[j]? = some y → O.kle (κ x) (κ y))
    (q : ∀ k, k ≤ n → (∀ j x, j < k → arr[base + j]? = some x → O.klt (κ x) (κ key)) → (∀ j x, k ≤ j → j < n → arr[base + j]? = some x → O.kle (κ key) (κ x)) → Q (some k) st) : wpS (model prog w) A E s (gallop' true key arr base n hint) Q st := by
  refine go_gallop C hs hk ha hsz hh (fun i j hij hj hp => ?_) fun k hk h1 h2 => q k hk (fun j x hj hx => ?_) (fun j x c1 c2 hx => ?_)
  · have xi : arr[base + i]? = some arr[base + i] := Array.getElem?_eq_getElem (by omega)
    have xj : arr[base + j]? = some arr[base + j] := Array.getElem?_eq_getElem (by omega)
    unfold pb at hp ⊢
    rw [xj] at hp
    rw [xi]
    simp only [if_true] at hp ⊢
    exact KeyOrd.klt_of_kle_of_klt (srt _ _ _ _ (by omega) (by omega) (by omega) xi xj) hp
  · have := h1 j hj
    unfold pb at this
    rw [hx] at this
    show O.blt (κ x) (κ key) = true
    simpa using this
  · have := h2 j c1 c2
    unfold pb at this
    rw [hx] at this
    show O.blt (κ x) (κ key) = false
    simpa using this
end
section
variable {prog : Program} {w : World} {A : Around} {E : Value → Shared → Prop} {s : Shared} {O : KeyOrd} {κ : Keyed → O.α} {ok : Keyed → Prop} {kd : SortKind}
theorem go_mergeLo (C : Cm (model prog w) A E s κ ok kd) {st : SortSt} (hs : Sx kd st) {a b : Array Keyed} {Q : Array Keyed → SortSt → Prop} (oka : ∀ x ∈ a, ok x) (okb : ∀ x ∈ b, ok x) (sa : Srd κ a.toList) (sb : Srd κ b.toList) (ha : 1 ≤ a.size) (hb : 1 ≤ b.size)
    (h1 : ∀ x ∈ a, ∀ y, b[0]? = some y → O.kle (κ y) (κ x)) (h2 : ∀ y ∈ b, ∀ x, a[a.size - 1]? = some x → O.kle (κ y) (κ x))
    (q : ∀ out g, Gd κ (a.toList ++ b.toList) out → Q out (setGal st g)) : wpS (model prog w) A E s (mergeLo' a b) Q st := by
  refine wpS_bind (wpS_lift (wpAny_rule ⟨rfl, ?_⟩))
  dsimp only
  obtain ⟨y0, ey0, dy0, my0⟩ := arr_at (a := b) (i := 0) (by omega)
  refine wpS_bind (wpS_elem ey0 ?_)
  have M0 : MI κ (a.toList ++ b.toList) (#[] : Array Keyed).toList (a.toList.drop 0) (b.toList.drop 0) := ⟨by simp, List.Pairwise.nil, by simpa using sa, by simpa using sb, by simp, by simp⟩
  have M1 : MI κ (a.toList ++ b.toList) (#[y0] : Array Keyed).toList (a.toList.drop 0) (b.toList.drop 1) := M0.pushB dy0 (fun x hx => by
    obtain ⟨j, _, j2⟩ := mem_drop hx
    exact h1 x (Array.mem_of_getElem? j2) y0 ey0)
  by_cases c1 : 1 = b.size
  · rw [if_pos (beq_iff_eq.mpr c1)]
    exact wpS_pure (q _ (gallopOf st) (M1.done (.inl c1)))
  rw [if_neg (fun z => c1 (beq_iff_eq.mp z))]
  by_cases c2 : 0 + 1 = a.size
  · rw [if_pos (beq_iff_eq.mpr c2)]
    exact wpS_pure (q _ (gallopOf st) (M1.last c2 h2))
  rw [if_neg (fun z => c2 (beq_iff_eq.mp z))]
  refine wpS_bind (wpS_get ?_)
  refine wpS_bind (wpS_mono (wpS_forRange (fun x c st' => ∃ out ia ib mg, c = (none, out, ia, ib, mg) ∧ (∃ g, st' = setGal st g) ∧ MI κ (a.toList ++ b.toList) out.toList (a.toList.drop ia) (b.toList.drop ib) ∧ ia + 1 < a.size ∧ ib < b.size ∧ x + 1 ≤ out.size)
    (Q := fun c st' => (∃ g, st' = setGal st g) ∧ ∃ r, c.1 = some r ∧ Gd κ (a.toList ++ b.toList) r) ?step ?fin ⟨_, _, _, _, rfl, ⟨gallopOf st, rfl⟩, M1, by omega, by omega, by simp⟩) ?post)
  case fin =>
    rintro c st' ⟨out, ia, ib, mg, rfl, ⟨g, rfl⟩, m, i1, i2, sz⟩
    exfalso
    have := m.size
    rw [List.length_append, Array.length_toList, Array.length_toList] at this
    omega
  case post =>
    rintro ⟨c1, c2⟩ st' ⟨⟨g, rfl⟩, r, e, gd⟩
    cases e
    exact wpS_pure (q _ g gd)
  case step =>
    rintro x c st' _ hx ⟨out, ia, ib, mg, rfl, ⟨g, rfl⟩, m, i1, i2, sz⟩
    dsimp only
    refine wpS_bind (wpS_mono (wpS_forRange (fun y c st' => ∃ out ia ib ac bc, c = (none, out, ia, ib, ac, bc) ∧ st' = setGal st g ∧ MI κ (a.toList ++ b.toList) out.toList (a.toList.drop ia) (b.toList.drop ib) ∧ ia + 1 < a.size ∧ ib < b.size ∧ x + 1 + y ≤ out.size)
      (Q := fun c st' => st' = setGal st g ∧ ((∃ r, c.1 = some r ∧ Gd κ (a.toList ++ b.toList) r) ∨ ∃ out ia ib ac bc, c = (none, out, ia, ib, ac, bc) ∧ MI κ (a.toList ++ b.toList) out.toList (a.toList.drop ia) (b.toList.drop ib) ∧ ia + 1 < a.size ∧ ib < b.size ∧ x + 2 ≤ out.size)) ?step2 ?fin2 ⟨out, ia, ib, 0, 0, rfl, rfl, m, i1, i2, by omega⟩) ?post2)
    case fin2 =>
      rintro c st' ⟨out, ia, ib, ac, bc, rfl, rfl, m, i1, i2, sz⟩
      exact ⟨rfl, .inr ⟨_, _, _, _, _, rfl, m, i1, i2, by omega⟩⟩
    case step2 =>
      rintro y c st' _ hy ⟨out, ia, ib, ac, bc, rfl, rfl, m, i1, i2, sz⟩
      dsimp only
      obtain ⟨yb, eyb, dyb, myb⟩ := arr_at (a := b) (i := ib) i2
      obtain ⟨xa, exa, dxa, mxa⟩ := arr_at (a := a) (i := ia) (by omega)
      refine wpS_bind (wpS_elem eyb (wpS_bind (wpS_elem exa (wpS_bind (C.lt hs.1 hs.2 (okb _ myb) (oka _ mxa) ?_)))))
      dsimp only
      cases e : O.blt (κ yb) (κ xa) with
      | true =>
        rw [if_pos rfl]
        refine wpS_bind (wpS_elem eyb ?_)
        have m2 := m.pushB dyb (fun z hz => KeyOrd.kle_trans (KeyOrd.kle_of_klt e) (m.headA dxa z hz))
        by_cases c : ib + 1 = b.size
        · rw [if_pos (beq_iff_eq.mpr c)]
          exact wpS_pure ⟨rfl, .inl ⟨_, rfl, m2.done (.inl c)⟩⟩
        rw [if_neg (fun z => c (beq_iff_eq.mp z))]
        split
        · exact wpS_pure ⟨rfl, .inr ⟨_, _, _, _, _, rfl, m2, i1, by omega, by rw [Array.size_push]; omega⟩⟩
        · exact wpS_pure ⟨_, _, _, _, _, rfl, rfl, m2, i1, by omega, by rw [Array.size_push]; omega⟩
      | false =>
        rw [if_neg Bool.false_ne_true]
        refine wpS_bind (wpS_elem exa ?_)
        have m2 := m.pushA dxa (fun z hz => KeyOrd.kle_trans e (m.headB dyb z hz))
        by_cases c : ia + 1 + 1 = a.size
        · rw [if_pos (beq_iff_eq.mpr c)]
          exact wpS_pure ⟨rfl, .inl ⟨_, rfl, m2.last c h2⟩⟩
        rw [if_neg (fun z => c (beq_iff_eq.mp z))]
        split
        · exact wpS_pure ⟨rfl, .inr ⟨_, _, _, _, _, rfl, m2, by omega, i2, by rw [Array.size_push]; omega⟩⟩
        · exact wpS_pure ⟨_, _, _, _, _, rfl, rfl, m2, by omega, i2, by rw [Array.size_push]; omega⟩
    case post2 =>
      rintro c st' ⟨rfl, hq⟩
      rcases hq with ⟨r, e, gd⟩ | ⟨out, ia, ib, ac, bc, rfl, m, i1, i2, sz⟩
      · obtain ⟨c1, c2⟩ := c
        cases e
        exact wpS_pure ⟨⟨g, rfl⟩, r, rfl, gd⟩
      dsimp only
      refine wpS_bind (wpS_lift (wpAny_rule ⟨rfl, ?_⟩))
      refine wpS_bind (wpS_mono (wpS_forRange (fun _ c st' => ∃ out ia ib mg ac bc, c = (none, out, ia, ib, mg, ac, bc) ∧ (∃ g, st' = setGal st g) ∧ MI κ (a.toList ++ b.toList) out.toList (a.toList.drop ia) (b.toList.drop ib) ∧ ia + 1 < a.size ∧ ib < b.size ∧ x + 2 ≤ out.size)
        (Q := fun c st' => (∃ g, st' = setGal st g) ∧ ((∃ r, c.1 = some r ∧ Gd κ (a.toList ++ b.toList) r) ∨ ∃ out ia ib mg ac bc, c = (none, out, ia, ib, mg, ac, bc) ∧ MI κ (a.toList ++ b.toList) out.toList (a.toList.drop ia) (b.toList.drop ib) ∧ ia + 1 < a.size ∧ ib < b.size ∧ x + 2 ≤ out.size)) ?step3 ?fin3 ⟨_, _, _, _, _, _, rfl, ⟨g, rfl⟩, m, i1, i2, sz⟩) ?post3)
      case fin3 =>
        rintro c st' ⟨out, ia, ib, mg, ac, bc, rfl, hg, m, i1, i2, sz⟩
        exact ⟨hg, .inr ⟨_, _, _, _, _, _, rfl, m, i1, i2, sz⟩⟩
      case post3 =>
        rintro c st' ⟨⟨g, rfl⟩, hq⟩
        rcases hq with ⟨r, e, gd⟩ | ⟨out, ia, ib, mg, ac, bc, rfl, m, i1, i2, sz⟩
        · obtain ⟨c1, c2⟩ := c
          cases e
          exact wpS_pure ⟨⟨g, rfl⟩, r, rfl, gd⟩
        dsimp only
        exact wpS_bind (wpS_modify (wpS_pure ⟨_, _, _, _, rfl, ⟨_, rfl⟩, m, i1, i2, by omega⟩))
      case step3 =>
        rintro y c st' _ hy ⟨out, ia, ib, mg, ac, bc, rfl, ⟨g, rfl⟩, m, i1, i2, sz⟩
        dsimp only
        by_cases cm : mg > 1
        · rw [if_pos cm]
          refine wpS_bind (wpS_modify ?_)
          obtain ⟨yb, eyb, dyb, myb⟩ := arr_at (a := b) (i := ib) i2
          refine wpS_bind (wpS_elem eyb ?_)
          refine wpS_bind (go_right C (arr := a) (base := ia) (n := a.size - ia) (hint := 0) hs.gal.gal (okb _ myb) oka (by omega) (by omega) (fun i j x y _ c2 _ ex ey => sa.get c2 ex ey) fun k hk le gt => ?_)
          dsimp only
          have m2 := m.chunkA (k := k) (fun x hx z hz => by
            obtain ⟨j, j1, j2⟩ := mem_ext hx
            exact KeyOrd.kle_trans (le j x j1 j2) (m.headB dyb z hz))
          have ng : ∀ x ∈ a.toList.drop (ia + k), O.kle (κ yb) (κ x) := fun x hx => by
            obtain ⟨j, j1, j2⟩ := mem_drop hx
            exact KeyOrd.kle_of_klt (gt (k + j) x (by omega) (by omega) (by rw [← Nat.add_assoc]; exact j2))
          by_cases ck : k > 0
          · rw [if_pos ck]
            by_cases c1 : ia + k + 1 = a.size
            · rw [if_pos (beq_iff_eq.mpr c1)]
              exact wpS_pure ⟨⟨_, rfl⟩, .inl ⟨_, rfl, m2.last c1 h2⟩⟩
            rw [if_neg (fun z => c1 (beq_iff_eq.mp z))]
            by_cases c2 : ia + k = a.size
            · rw [if_pos (beq_iff_eq.mpr c2)]
              exact wpS_pure ⟨⟨_, rfl⟩, .inl ⟨_, rfl, m2.done (.inr c2)⟩⟩
            rw [if_neg (fun z => c2 (beq_iff_eq.mp z))]
            refine wpS_bind (wpS_elem eyb ?_)
            have m3 := m2.pushB dyb ng
            by_cases c3 : ib + 1 = b.size
            · rw [if_pos (beq_iff_eq.mpr c3)]
              exact wpS_pure ⟨⟨_, rfl⟩, .inl ⟨_, rfl, m3.done (.inl c3)⟩⟩
            rw [if_neg (fun z => c3 (beq_iff_eq.mp z))]
            obtain ⟨xa, exa, dxa, mxa⟩ := arr_at (a := a) (i := ia + k) (by omega)
            refine wpS_bind (wpS_elem exa ?_)
            refine wpS_bind (go_left C (arr := b) (base := ib + 1) (n := b.size - (ib + 1)) (hint := 0) hs.gal.gal (oka _ mxa) okb (by omega) (by omega) (fun i j x y _ c2 _ ex ey => sb.get c2 ex ey) fun k2 hk2 lt2 ge2 => ?_)
            dsimp only
            by_cases ck2 : k2 > 0
            · rw [if_pos ck2]
              have m4 := m3.chunkB (k := k2) (fun x hx z hz => by
                obtain ⟨j, j1, j2⟩ := mem_ext hx
                exact KeyOrd.kle_trans (KeyOrd.kle_of_klt (lt2 j x j1 j2)) (m3.headA dxa z hz))
              by_cases c4 : ib + 1 + k2 = b.size
              · rw [if_pos (beq_iff_eq.mpr c4)]
                exact wpS_pure ⟨⟨_, rfl⟩, .inl ⟨_, rfl, m4.done (.inl c4)⟩⟩
              rw [if_neg (fun z => c4 (beq_iff_eq.mp z))]
              refine wpS_bind (wpS_elem exa ?_)
              have m5 := m4.pushA dxa (fun z hz => by
                obtain ⟨j, j1, j2⟩ := mem_drop hz
                exact ge2 (k2 + j) z (by omega) (by omega) (by rw [← Nat.add_assoc]; exact j2))
              by_cases c5 : ia + k + 1 + 1 = a.size
              · rw [if_pos (beq_iff_eq.mpr c5)]
                exact wpS_pure ⟨⟨_, rfl⟩, .inl ⟨_, rfl, m5.last c5 h2⟩⟩
              rw [if_neg (fun z => c5 (beq_iff_eq.mp z))]
              split
              · exact wpS_pure ⟨⟨_, rfl⟩, .inr ⟨_, _, _, _, _, _, rfl, m5, by omega, by omega, by simp only [Array.size_push, Array.size_append]; omega⟩⟩
              · exact wpS_pure ⟨_, _, _, _, _, _, rfl, ⟨_, rfl⟩, m5, by omega, by omega, by simp only [Array.size_push, Array.size_append]; omega⟩
            · rw [if_neg ck2]
              refine wpS_bind (wpS_elem exa ?_)
              have m5 := m3.pushA dxa (fun z hz => by
                obtain ⟨j, j1, j2⟩ := mem_drop hz
                exact ge2 j z (by omega) (by omega) j2)
              by_cases c5 : ia + k + 1 + 1 = a.size
              · rw [if_pos (beq_iff_eq.mpr c5)]
                exact wpS_pure ⟨⟨_, rfl⟩, .inl ⟨_, rfl, m5.last c5 h2⟩⟩
              rw [if_neg (fun z => c5 (beq_iff_eq.mp z))]
              split
              · exact wpS_pure ⟨⟨_, rfl⟩, .inr ⟨_, _, _, _, _, _, rfl, m5, by omega, by omega, by simp only [Array.size_push, Array.size_append]; omega⟩⟩
              · exact wpS_pure ⟨_, _, _, _, _, _, rfl, ⟨_, rfl⟩, m5, by omega, by omega, by simp only [Array.size_push, Array.size_append]; omega⟩
          · rw [if_neg ck]
            have k0 : k = 0 := by omega
            rw [k0] at ng
            refine wpS_bind (wpS_elem eyb ?_)
            have m3 := m.pushB dyb ng
            by_cases c3 : ib + 1 = b.size
            · rw [if_pos (beq_iff_eq.mpr c3)]
              exact wpS_pure ⟨⟨_, rfl⟩, .inl ⟨_, rfl, m3.done (.inl c3)⟩⟩
            rw [if_neg (fun z => c3 (beq_iff_eq.mp z))]
            obtain ⟨xa, exa, dxa, mxa⟩ := arr_at (a := a) (i := ia) (by omega)
            refine wpS_bind (wpS_elem exa ?_)
            refine wpS_bind (go_left C (arr := b) (base := ib + 1) (n := b.size - (ib + 1)) (hint := 0) hs.gal.gal (oka _ mxa) okb (by omega) (by omega) (fun i j x y _ c2 _ ex ey => sb.get c2 ex ey) fun k2 hk2 lt2 ge2 => ?_)
            dsimp only
            by_cases ck2 : k2 > 0
            · rw [if_pos ck2]
              have m4 := m3.chunkB (k := k2) (fun x hx z hz => by
                obtain ⟨j, j1, j2⟩ := mem_ext hx
                exact KeyOrd.kle_trans (KeyOrd.kle_of_klt (lt2 j x j1 j2)) (m3.headA dxa z hz))
              by_cases c4 : ib + 1 + k2 = b.size
              · rw [if_pos (beq_iff_eq.mpr c4)]
                exact wpS_pure ⟨⟨_, rfl⟩, .inl ⟨_, rfl, m4.done (.inl c4)⟩⟩
              rw [if_neg (fun z => c4 (beq_iff_eq.mp z))]
              refine wpS_bind (wpS_elem exa ?_)
              have m5 := m4.pushA dxa (fun z hz => by
                obtain ⟨j, j1, j2⟩ := mem_drop hz
                exact ge2 (k2 + j) z (by omega) (by omega) (by rw [← Nat.add_assoc]; exact j2))
              by_cases c5 : ia + 1 + 1 = a.size
              · rw [if_pos (beq_iff_eq.mpr c5)]
                exact wpS_pure ⟨⟨_, rfl⟩, .inl ⟨_, rfl, m5.last c5 h2⟩⟩
              rw [if_neg (fun z => c5 (beq_iff_eq.mp z))]
              split
              · exact wpS_pure ⟨⟨_, rfl⟩, .inr ⟨_, _, _, _, _, _, rfl, m5, by omega, by omega, by simp only [Array.size_push, Array.size_append]; omega⟩⟩
              · exact wpS_pure ⟨_, _, _, _, _, _, rfl, ⟨_, rfl⟩, m5, by omega, by omega, by simp only [Array.size_push, Array.size_append]; omega⟩
            · rw [if_neg ck2]
              refine wpS_bind (wpS_elem exa ?_)
              have m5 := m3.pushA dxa (fun z hz => by
                obtain ⟨j, j1, j2⟩ := mem_drop hz
                exact ge2 j z (by omega) (by omega) j2)
              by_cases c5 : ia + 1 + 1 = a.size
              · rw [if_pos (beq_iff_eq.mpr c5)]
                exact wpS_pure ⟨⟨_, rfl⟩, .inl ⟨_, rfl, m5.last c5 h2⟩⟩
              rw [if_neg (fun z => c5 (beq_iff_eq.mp z))]
              split
              · exact wpS_pure ⟨⟨_, rfl⟩, .inr ⟨_, _, _, _, _, _, rfl, m5, by omega, by omega, by simp only [Array.size_push, Array.size_append]; omega⟩⟩
              · exact wpS_pure ⟨_, _, _, _, _, _, rfl, ⟨_, rfl⟩, m5, by omega, by omega, by simp only [Array.size_push, Array.size_append]; omega⟩
        · rw [if_neg cm]
          refine wpS_bind (wpS_modify ?_)
          obtain ⟨yb, eyb, dyb, myb⟩ := arr_at (a := b) (i := ib) i2
          refine wpS_bind (wpS_elem eyb ?_)
          refine wpS_bind (go_right C (arr := a) (base := ia) (n := a.size - ia) (hint := 0) hs.gal.gal (okb _ myb) oka (by omega) (by omega) (fun i j x y _ c2 _ ex ey => sa.get c2 ex ey) fun k hk le gt => ?_)
          dsimp only
          have m2 := m.chunkA (k := k) (fun x hx z hz => by
            obtain ⟨j, j1, j2⟩ := mem_ext hx
            exact KeyOrd.kle_trans (le j x j1 j2) (m.headB dyb z hz))
          have ng : ∀ x ∈ a.toList.drop (ia + k), O.kle (κ yb) (κ x) := fun x hx => by
            obtain ⟨j, j1, j2⟩ := mem_drop hx
            exact KeyOrd.kle_of_klt (gt (k + j) x (by omega) (by omega) (by rw [← Nat.add_assoc]; exact j2))
          by_cases ck : k > 0
          · rw [if_pos ck]
            by_cases c1 : ia + k + 1 = a.size
            · rw [if_pos (beq_iff_eq.mpr c1)]
              exact wpS_pure ⟨⟨_, rfl⟩, .inl ⟨_, rfl, m2.last c1 h2⟩⟩
            rw [if_neg (fun z => c1 (beq_iff_eq.mp z))]
            by_cases c2 : ia + k = a.size
            · rw [if_pos (beq_iff_eq.mpr c2)]
              exact wpS_pure ⟨⟨_, rfl⟩, .inl ⟨_, rfl, m2.done (.inr c2)⟩⟩
            rw [if_neg (fun z => c2 (beq_iff_eq.mp z))]
            refine wpS_bind (wpS_elem eyb ?_)
            have m3 := m2.pushB dyb ng
            by_cases c3 : ib + 1 = b.size
            · rw [if_pos (beq_iff_eq.mpr c3)]
              exact wpS_pure ⟨⟨_, rfl⟩, .inl ⟨_, rfl, m3.done (.inl c3)⟩⟩
            rw [if_neg (fun z => c3 (beq_iff_eq.mp z))]
            obtain ⟨xa, exa, dxa, mxa⟩ := arr_at (a := a) (i := ia + k) (by omega)
            refine wpS_bind (wpS_elem exa ?_)
            refine wpS_bind (go_left C (arr := b) (base := ib + 1) (n := b.size - (ib + 1)) (hint := 0) hs.gal.gal (oka _ mxa) okb (by omega) (by omega) (fun i j x y _ c2 _ ex ey => sb.get c2 ex ey) fun k2 hk2 lt2 ge2 => ?_)
            dsimp only
            by_cases ck2 : k2 > 0
            · rw [if_pos ck2]
              have m4 := m3.chunkB (k := k2) (fun x hx z hz => by
                obtain ⟨j, j1, j2⟩ := mem_ext hx
                exact KeyOrd.kle_trans (KeyOrd.kle_of_klt (lt2 j x j1 j2)) (m3.headA dxa z hz))
              by_cases c4 : ib + 1 + k2 = b.size
              · rw [if_pos (beq_iff_eq.mpr c4)]
                exact wpS_pure ⟨⟨_, rfl⟩, .inl ⟨_, rfl, m4.done (.inl c4)⟩⟩
              rw [if_neg (fun z => c4 (beq_iff_eq.mp z))]
              refine wpS_bind (wpS_elem exa ?_)
              have m5 := m4.pushA dxa (fun z hz => by
                obtain ⟨j, j1, j2⟩ := mem_drop hz
                exact ge2 (k2 + j) z (by omega) (by omega) (by rw [← Nat.add_assoc]; exact j2))
              by_cases c5 : ia + k + 1 + 1 = a.size
              · rw [if_pos (beq_iff_eq.mpr c5)]
                exact wpS_pure ⟨⟨_, rfl⟩, .inl ⟨_, rfl, m5.last c5 h2⟩⟩
              rw [if_neg (fun z => c5 (beq_iff_eq.mp z))]
              split
              · exact wpS_pure ⟨⟨_, rfl⟩, .inr ⟨_, _, _, _, _, _, rfl, m5, by omega, by omega, by simp only [Array.size_push, Array.size_append]; omega⟩⟩
              · exact wpS_pure ⟨_, _, _, _, _, _, rfl, ⟨_, rfl⟩, m5, by omega, by omega, by simp only [Array.size_push, Array.size_append]; omega⟩
            · rw [if_neg ck2]
              refine wpS_bind (wpS_elem exa ?_)
              have m5 := m3.pushA dxa (fun z hz => by
                obtain ⟨j, j1, j2⟩ := mem_drop hz
                exact ge2 j z (by omega) (by omega) j2)
              by_cases c5 : ia + k + 1 + 1 = a.size
              · rw [if_pos (beq_iff_eq.mpr c5)]
                exact wpS_pure ⟨⟨_, rfl⟩, .inl ⟨_, rfl, m5.last c5 h2⟩⟩
              rw [if_neg (fun z => c5 (beq_iff_eq.mp z))]
              split
              · exact wpS_pure ⟨⟨_, rfl⟩, .inr ⟨_, _, _, _, _, _, rfl, m5, by omega, by omega, by simp only [Array.size_push, Array.size_append]; omega⟩⟩
              · exact wpS_pure ⟨_, _, _, _, _, _, rfl, ⟨_, rfl⟩, m5, by omega, by omega, by simp only [Array.size_push, Array.size_append]; omega⟩
          · rw [if_neg ck]
            have k0 : k = 0 := by omega
            rw [k0] at ng
            refine wpS_bind (wpS_elem eyb ?_)
            have m3 := m.pushB dyb ng
            by_cases c3 : ib + 1 = b.size
            · rw [if_pos (beq_iff_eq.mpr c3)]
              exact wpS_pure ⟨⟨_, rfl⟩, .inl ⟨_, rfl, m3.done (.inl c3)⟩⟩
            rw [if_neg (fun z => c3 (beq_iff_eq.mp z))]
            obtain ⟨xa, exa, dxa, mxa⟩ := arr_at (a := a) (i := ia) (by omega)
            refine wpS_bind (wpS_elem exa ?_)
            refine wpS_bind (go_left C (arr := b) (base := ib + 1) (n := b.size - (ib + 1)) (hint := 0) hs.gal.gal (oka _ mxa) okb (by omega) (by omega) (fun i j x y _ c2 _ ex ey => sb.get c2 ex ey) fun k2 hk2 lt2 ge2 => ?_)
            dsimp only
            by_cases ck2 : k2 > 0
            · rw [if_pos ck2]
              have m4 := m3.chunkB (k := k2) (fun x hx z hz => by
                obtain ⟨j, j1, j2⟩ := mem_ext hx
                exact KeyOrd.kle_trans (KeyOrd.kle_of_klt (lt2 j x j1 j2)) (m3.headA dxa z hz))
              by_cases c4 : ib + 1 + k2 = b.size
              · rw [if_pos (beq_iff_eq.mpr c4)]
                exact wpS_pure ⟨⟨_, rfl⟩, .inl ⟨_, rfl, m4.done (.inl c4)⟩⟩
              rw [if_neg (fun z => c4 (beq_iff_eq.mp z))]
              refine wpS_bind (wpS_elem exa ?_)
              have m5 := m4.pushA dxa (fun z hz => by
                obtain ⟨j, j1, j2⟩ := mem_drop hz
                exact ge2 (k2 + j) z (by omega) (by omega) (by rw [← Nat.add_assoc]; exact j2))
              by_cases c5 : ia + 1 + 1 = a.size
              · rw [if_pos (beq_iff_eq.mpr c5)]
                exact wpS_pure ⟨⟨_, rfl⟩, .inl ⟨_, rfl, m5.last c5 h2⟩⟩
              rw [if_neg (fun z => c5 (beq_iff_eq.mp z))]
              split
              · exact wpS_pure ⟨⟨_, rfl⟩, .inr ⟨_, _, _, _, _, _, rfl, m5, by omega, by omega, by simp only [Array.size_push, Array.size_append]; omega⟩⟩
              · exact wpS_pure ⟨_, _, _, _, _, _, rfl, ⟨_, rfl⟩, m5, by omega, by omega, by simp only [Array.size_push, Array.size_append]; omega⟩
            · rw [if_neg ck2]
              refine wpS_bind (wpS_elem exa ?_)
              have m5 := m3.pushA dxa (fun z hz => by
                obtain ⟨j, j1, j2⟩ := mem_drop hz
                exact ge2 j z (by omega) (by omega) j2)
              by_cases c5 : ia + 1 + 1 = a.size
              · rw [if_pos (beq_iff_eq.mpr c5)]
                exact wpS_pure ⟨⟨_, rfl⟩, .inl ⟨_, rfl, m5.last c5 h2⟩⟩
              rw [if_neg (fun z => c5 (beq_iff_eq.mp z))]
              split
              · exact wpS_pure ⟨⟨_, rfl⟩, .inr ⟨_, _, _, _, _, _, rfl, m5, by omega, by omega, by simp only [Array.size_push, Array.size_append]; omega⟩⟩
              · exact wpS_pure ⟨_, _, _, _, _, _, rfl, ⟨_, rfl⟩, m5, by omega, by omega, by simp only [Array.size_push, Array.size_append]; omega⟩

end
end L2

set_option Elab.async false
set_option linter.all false
set_option maxRecDepth 100000
set_option maxHeartbeats 1000000
namespace L2
open PySem PySem.Spec PyProof.Rows
def mergeHi' : Array Keyed → Array Keyed → StateT SortSt Sem (Array Keyed) := sortPriv% PySem.Builtin.mergeHi
section
variable {O : KeyOrd} (κ : Keyed → O.α)
/-- a merge under way from the end -/
structure MJ (L ro a b : List Keyed) : Prop where
  perm : (a ++ b ++ ro).Perm L
  so : Srd κ ro
  sa : Srd κ a
  sb : Srd κ b
  oa : ∀ x ∈ a, ∀ y ∈ ro, O.kle (κ x) (κ y)
  ob : ∀ x ∈ b, ∀ y ∈ ro, O.kle (κ x) (κ y)
variable {κ}
theorem MJ.swap {L out a b : List Keyed} (m : MJ κ L out a b) : MJ κ L out b a :=
  ⟨(List.Perm.append_right out List.perm_append_comm).trans m.perm, m.so, m.sb, m.sa, m.ob, m.oa⟩
theorem MJ.takeB {L ro c a b : List Keyed} (m : MJ κ L ro a (b ++ c)) (h : ∀ x ∈ a, ∀ y ∈ c, O.kle (κ x) (κ y)) : MJ κ L (c ++ ro) a b := by
  obtain ⟨s1, s2, s3⟩ := Srd.app.mp m.sb
  refine ⟨by have := m.perm; simpa [List.append_assoc] using this, Srd.app.mpr ⟨s2, m.so, fun x hx y hy => m.ob x (List.mem_append_right _ hx) y hy⟩, m.sa, s1, fun x hx y hy => ?_, fun x hx y hy => ?_⟩
  · rcases List.mem_append.mp hy with hy | hy
    · exact h x hx y hy
    · exact m.oa x hx y hy
  · rcases List.mem_append.mp hy with hy | hy
    · exact s3 x hx y hy
    · exact m.ob x (List.mem_append_left _ hx) y hy
theorem MJ.takeA {L ro c a b : List Keyed} (m : MJ κ L ro (a ++ c) b) (h : ∀ x ∈ b, ∀ y ∈ c, O.kle (κ x) (κ y)) : MJ κ L (c ++ ro) a b := (m.swap.takeB h).swap
theorem MJ.endA {L ro a b : List Keyed} (m : MJ κ L ro a b) (h : ∀ x ∈ a, ∀ y ∈ b, O.kle (κ x) (κ y)) : Srd κ (a ++ b ++ ro) ∧ (a ++ b ++ ro).Perm L :=
  ⟨Srd.app.mpr ⟨Srd.app.mpr ⟨m.sa, m.sb, h⟩, m.so, fun x hx y hy => by
    rcases List.mem_append.mp hx with hx | hx
    · exact m.oa x hx y hy
    · exact m.ob x hx y hy⟩, m.perm⟩
theorem arr_pre1 {a : Array Keyed} {j : Nat} (h : j + 1 ≤ a.size) : ∃ x, a[j]? = some x ∧ a.toList.take (j + 1) = a.toList.take j ++ [x] ∧ x ∈ a :=
  ⟨a[j], Array.getElem?_eq_getElem (by omega), by
    rw [List.take_add_one, List.getElem?_eq_getElem (show j < a.toList.length by simpa using (show j < a.size by omega))]
    simp, Array.getElem_mem (by omega)⟩
theorem arr_pre {a : Array Keyed} {i : Nat} (h1 : 1 ≤ i) (h : i ≤ a.size) : ∃ x, a[i - 1]? = some x ∧ a.toList.take i = a.toList.take (i - 1) ++ [x] ∧ x ∈ a := by
  obtain ⟨j, rfl⟩ : ∃ j, i = j + 1 := ⟨i - 1, by omega⟩
  exact arr_pre1 h
theorem take_all (a : Array Keyed) : a.toList.take a.size = a.toList := List.take_of_length_le (by simp)
theorem ext_beg (a : Array Keyed) (i : Nat) : (a.extract 0 i).toList = a.toList.take i := by
  rw [ext_toList, List.drop_zero, Nat.sub_zero]
theorem ext_take {a : Array Keyed} {i j : Nat} (h : i ≤ j) : a.toList.take j = a.toList.take i ++ (a.extract i j).toList := by
  rw [ext_toList, ← List.take_add]
  congr 1; omega
theorem mem_ext2 {a : Array Keyed} {i j : Nat} {x : Keyed} (h : x ∈ (a.extract i j).toList) : ∃ k, i ≤ k ∧ k < j ∧ a[k]? = some x := by
  rcases Nat.lt_or_ge i j with c | c
  · have e : j = i + (j - i) := by omega
    rw [e] at h
    obtain ⟨k, k1, k2⟩ := mem_ext h
    exact ⟨i + k, by omega, by omega, k2⟩
  · rw [ext_toList, show j - i = 0 by omega, List.take_zero] at h
    cases h
theorem mem_take {a : Array Keyed} {i : Nat} {x : Keyed} (h : x ∈ a.toList.take i) : ∃ j, j < i ∧ a[j]? = some x := by
  obtain ⟨j, hj⟩ := List.mem_iff_getElem?.mp h
  rw [List.getElem?_take] at hj
  split at hj
  · rename_i c
    exact ⟨j, c, by simpa using hj⟩
  · cases hj
theorem MJ.done {L : List Keyed} {out a b : Array Keyed} {na nb : Nat} (m : MJ κ L out.toList.reverse (a.toList.take na) (b.toList.take nb)) (h : nb = 0 ∨ na = 0) : Gd κ L (a.extract 0 na ++ b.extract 0 nb ++ out.reverse) := by
  unfold Gd
  rw [Array.toList_append, Array.toList_append, ext_beg, ext_beg, Array.toList_reverse]
  refine m.endA fun x hx y hy => ?_
  rcases h with h | h
  · rw [h, List.take_zero] at hy; cases hy
  · rw [h, List.take_zero] at hx; cases hx
theorem MJ.first {L : List Keyed} {out a b : Array Keyed} {na nb : Nat} (m : MJ κ L out.toList.reverse (a.toList.take na) (b.toList.take nb)) (h : nb = 1) (h1 : ∀ x ∈ a, ∀ y, b[0]? = some y → O.kle (κ y) (κ x)) : Gd κ L (b.extract 0 nb ++ a.extract 0 na ++ out.reverse) := by
  unfold Gd
  rw [Array.toList_append, Array.toList_append, ext_beg, ext_beg, Array.toList_reverse]
  refine m.swap.endA fun y hy x hx => ?_
  obtain ⟨j, j1, j2⟩ := mem_take hx
  obtain ⟨k, k1, k2⟩ := mem_take hy
  exact h1 x (Array.mem_of_getElem? j2) y (by rw [← k2]; congr 1; omega)
theorem MJ.pushA {L : List Keyed} {out a b : Array Keyed} {na nb : Nat} {x : Keyed} (m : MJ κ L out.toList.reverse (a.toList.take na) (b.toList.take nb)) (hx : a.toList.take na = a.toList.take (na - 1) ++ [x]) (h : ∀ z ∈ b.toList.take nb, O.kle (κ z) (κ x)) : MJ κ L (out.push x).toList.reverse (a.toList.take (na - 1)) (b.toList.take nb) := by
  rw [Array.toList_push, List.reverse_append]
  rw [hx] at m
  exact m.takeA (c := [x]) (fun z hz y hy => by rw [List.mem_singleton.mp hy]; exact h z hz)
theorem MJ.pushB {L : List Keyed} {out a b : Array Keyed} {na nb : Nat} {x : Keyed} (m : MJ κ L out.toList.reverse (a.toList.take na) (b.toList.take nb)) (hx : b.toList.take nb = b.toList.take (nb - 1) ++ [x]) (h : ∀ z ∈ a.toList.take na, O.kle (κ z) (κ x)) : MJ κ L (out.push x).toList.reverse (a.toList.take na) (b.toList.take (nb - 1)) := by
  rw [Array.toList_push, List.reverse_append]
  rw [hx] at m
  exact m.takeB (c := [x]) (fun z hz y hy => by rw [List.mem_singleton.mp hy]; exact h z hz)
theorem rev_chunk (out c : Array Keyed) : (out ++ c.reverse).toList.reverse = c.toList ++ out.toList.reverse := by
  rw [Array.toList_append, List.reverse_append, Array.toList_reverse, List.reverse_reverse]
theorem MJ.chunkA {L : List Keyed} {out a b : Array Keyed} {na nb k : Nat} (m : MJ κ L out.toList.reverse (a.toList.take na) (b.toList.take nb)) (hk : k ≤ na) (h : ∀ x ∈ b.toList.take nb, ∀ y ∈ (a.extract k na).toList, O.kle (κ x) (κ y)) : MJ κ L (out ++ (a.extract k na).reverse).toList.reverse (a.toList.take k) (b.toList.take nb) := by
  rw [rev_chunk]
  rw [ext_take (a := a) hk] at m
  exact m.takeA h
theorem MJ.chunkB {L : List Keyed} {out a b : Array Keyed} {na nb k : Nat} (m : MJ κ L out.toList.reverse (a.toList.take na) (b.toList.take nb)) (hk : k ≤ nb) (h : ∀ x ∈ a.toList.take na, ∀ y ∈ (b.extract k nb).toList, O.kle (κ x) (κ y)) : MJ κ L (out ++ (b.extract k nb).reverse).toList.reverse (a.toList.take na) (b.toList.take k) := by
  rw [rev_chunk]
  rw [ext_take (a := b) hk] at m
  exact m.takeB h
theorem MJ.lastA {L ro b : List Keyed} {a : Array Keyed} {na : Nat} {x : Keyed} (m : MJ κ L ro (a.toList.take na) b) (hx : a.toList.take na = a.toList.take (na - 1) ++ [x]) : ∀ z ∈ a.toList.take na, O.kle (κ z) (κ x) := by
  have := m.sa
  rw [hx] at this ⊢
  intro z hz
  rcases List.mem_append.mp hz with hz | hz
  · exact (Srd.app.mp this).2.2 z hz x (List.mem_singleton.mpr rfl)
  · rw [List.mem_singleton.mp hz]; exact KeyOrd.kle_refl _
theorem MJ.lastB {L ro a : List Keyed} {b : Array Keyed} {nb : Nat} {x : Keyed} (m : MJ κ L ro a (b.toList.take nb)) (hx : b.toList.take nb = b.toList.take (nb - 1) ++ [x]) : ∀ z ∈ b.toList.take nb, O.kle (κ z) (κ x) := m.swap.lastA hx
theorem MJ.size {L : List Keyed} {out a b : Array Keyed} {na nb : Nat} (m : MJ κ L out.toList.reverse (a.toList.take na) (b.toList.take nb)) : min na a.size + min nb b.size + out.size = L.length := by
  have := m.perm.length_eq
  simp only [List.length_append, List.length_take, List.length_reverse, Array.length_toList] at this
  exact this
end
section
variable {prog : Program} {w : World} {A : Around} {E : Value → Shared → Prop} {s : Shared} {O : KeyOrd} {κ : Keyed → O.α} {ok : Keyed → Prop} {kd : SortKind}
theorem go_mergeHi (C : Cm (model prog w) A E s κ ok kd) {st : SortSt} (hs : Sx kd st) {a b : Array Keyed} {Q : Array Keyed → SortSt → Prop} (oka : ∀ x ∈ a, ok x) (okb : ∀ x ∈ b, ok x) (sa : Srd κ a.toList) (sb : Srd κ b.toList) (ha : 1 ≤ a.size) (hb : 1 ≤ b.size)
    (h1 : ∀ x ∈ a, ∀ y, b[0]? = some y → O.kle (κ y) (κ x)) (h2 : ∀ y ∈ b, ∀ x, a[a.size - 1]? = some x → O.kle (κ y) (κ x))
    (q : ∀ out g, Gd κ (a.toList ++ b.toList) out → Q out (setGal st g)) : wpS (model prog w) A E s (mergeHi' a b) Q st := by
  refine wpS_bind (wpS_lift (wpAny_rule ⟨rfl, ?_⟩))
  dsimp only
  obtain ⟨y0, ey0, dy0, my0⟩ := arr_pre (a := a) (i := a.size) (by omega) (Nat.le_refl _)
  refine wpS_bind (wpS_elem ey0 ?_)
  have M0 : MJ κ (a.toList ++ b.toList) (#[] : Array Keyed).toList.reverse (a.toList.take a.size) (b.toList.take b.size) := ⟨by rw [take_all, take_all]; simp, List.Pairwise.nil, by rw [take_all]; exact sa, by rw [take_all]; exact sb, by simp, by simp⟩
  have M1 : MJ κ (a.toList ++ b.toList) (#[y0] : Array Keyed).toList.reverse (a.toList.take (a.size - 1)) (b.toList.take b.size) := M0.pushA dy0 (fun x hx => by
    obtain ⟨j, _, j2⟩ := mem_take hx
    exact h2 x (Array.mem_of_getElem? j2) y0 ey0)
  by_cases c1 : a.size - 1 = 0
  · rw [if_pos (beq_iff_eq.mpr c1)]
    exact wpS_pure (q _ (gallopOf st) (M1.done (.inr c1)))
  rw [if_neg (fun z => c1 (beq_iff_eq.mp z))]
  by_cases c2 : b.size = 1
  · rw [if_pos (beq_iff_eq.mpr c2)]
    exact wpS_pure (q _ (gallopOf st) (M1.first c2 h1))
  rw [if_neg (fun z => c2 (beq_iff_eq.mp z))]
  refine wpS_bind (wpS_get ?_)
  refine wpS_bind (wpS_mono (wpS_forRange (fun x c st' => ∃ na nb out mg, c = (none, na, nb, out, mg) ∧ (∃ g, st' = setGal st g) ∧ MJ κ (a.toList ++ b.toList) out.toList.reverse (a.toList.take na) (b.toList.take nb) ∧ (1 ≤ na ∧ na ≤ a.size ∧ 2 ≤ nb ∧ nb ≤ b.size) ∧ x + 1 ≤ out.size)
    (Q := fun c st' => (∃ g, st' = setGal st g) ∧ ∃ r, c.1 = some r ∧ Gd κ (a.toList ++ b.toList) r) ?step ?fin ⟨_, _, _, _, rfl, ⟨gallopOf st, rfl⟩, M1, ⟨by omega, by omega, by omega, by omega⟩, by simp⟩) ?post)
  case fin =>
    rintro c st' ⟨na, nb, out, mg, rfl, ⟨g, rfl⟩, m, ⟨i1, i2, i3, i4⟩, sz⟩
    exfalso
    have := m.size
    rw [List.length_append, Array.length_toList, Array.length_toList] at this
    omega
  case post =>
    rintro ⟨c1, c2⟩ st' ⟨⟨g, rfl⟩, r, e, gd⟩
    cases e
    exact wpS_pure (q _ g gd)
  case step =>
    rintro x c st' _ hx ⟨na, nb, out, mg, rfl, ⟨g, rfl⟩, m, ⟨i1, i2, i3, i4⟩, sz⟩
    dsimp only
    refine wpS_bind (wpS_mono (wpS_forRange (fun y c st' => ∃ na nb out ac bc, c = (none, na, nb, out, ac, bc) ∧ st' = setGal st g ∧ MJ κ (a.toList ++ b.toList) out.toList.reverse (a.toList.take na) (b.toList.take nb) ∧ (1 ≤ na ∧ na ≤ a.size ∧ 2 ≤ nb ∧ nb ≤ b.size) ∧ x + 1 + y ≤ out.size)
      (Q := fun c st' => st' = setGal st g ∧ ((∃ r, c.1 = some r ∧ Gd κ (a.toList ++ b.toList) r) ∨ ∃ na nb out ac bc, c = (none, na, nb, out, ac, bc) ∧ MJ κ (a.toList ++ b.toList) out.toList.reverse (a.toList.take na) (b.toList.take nb) ∧ (1 ≤ na ∧ na ≤ a.size ∧ 2 ≤ nb ∧ nb ≤ b.size) ∧ x + 2 ≤ out.size)) ?step2 ?fin2 ⟨na, nb, out, 0, 0, rfl, rfl, m, ⟨i1, i2, i3, i4⟩, by omega⟩) ?post2)
    case fin2 =>
      rintro c st' ⟨na, nb, out, ac, bc, rfl, rfl, m, i, sz⟩
      exact ⟨rfl, .inr ⟨_, _, _, _, _, rfl, m, i, by omega⟩⟩
    case step2 =>
      rintro y c st' _ hy ⟨na, nb, out, ac, bc, rfl, rfl, m, ⟨i1, i2, i3, i4⟩, sz⟩
      dsimp only
      obtain ⟨yb, eyb, dyb, myb⟩ := arr_pre (a := b) (i := nb) (by omega) (by omega)
      obtain ⟨xa, exa, dxa, mxa⟩ := arr_pre (a := a) (i := na) (by omega) (by omega)
      refine wpS_bind (wpS_elem eyb (wpS_bind (wpS_elem exa (wpS_bind (C.lt hs.1 hs.2 (okb _ myb) (oka _ mxa) ?_)))))
      dsimp only
      cases e : O.blt (κ yb) (κ xa) with
      | true =>
        rw [if_pos rfl]
        refine wpS_bind (wpS_elem exa ?_)
        have m2 := m.pushA dxa (fun z hz => KeyOrd.kle_trans (m.lastB dyb z hz) (KeyOrd.kle_of_klt e))
        by_cases c : na - 1 = 0
        · rw [if_pos (beq_iff_eq.mpr c)]
          exact wpS_pure ⟨rfl, .inl ⟨_, rfl, m2.done (.inr c)⟩⟩
        rw [if_neg (fun z => c (beq_iff_eq.mp z))]
        split
        · exact wpS_pure ⟨rfl, .inr ⟨_, _, _, _, _, rfl, m2, ⟨by omega, by omega, i3, i4⟩, by rw [Array.size_push]; omega⟩⟩
        · exact wpS_pure ⟨_, _, _, _, _, rfl, rfl, m2, ⟨by omega, by omega, i3, i4⟩, by rw [Array.size_push]; omega⟩
      | false =>
        rw [if_neg Bool.false_ne_true]
        refine wpS_bind (wpS_elem eyb ?_)
        have m2 := m.pushB dyb (fun z hz => KeyOrd.kle_trans (m.lastA dxa z hz) e)
        by_cases c : nb - 1 = 1
        · rw [if_pos (beq_iff_eq.mpr c)]
          exact wpS_pure ⟨rfl, .inl ⟨_, rfl, m2.first c h1⟩⟩
        rw [if_neg (fun z => c (beq_iff_eq.mp z))]
        split
        · exact wpS_pure ⟨rfl, .inr ⟨_, _, _, _, _, rfl, m2, ⟨i1, i2, by omega, by omega⟩, by rw [Array.size_push]; omega⟩⟩
        · exact wpS_pure ⟨_, _, _, _, _, rfl, rfl, m2, ⟨i1, i2, by omega, by omega⟩, by rw [Array.size_push]; omega⟩
    case post2 =>
      rintro c st' ⟨rfl, hq⟩
      rcases hq with ⟨r, e, gd⟩ | ⟨na, nb, out, ac, bc, rfl, m, ⟨i1, i2, i3, i4⟩, sz⟩
      · obtain ⟨c1, c2⟩ := c
        cases e
        exact wpS_pure ⟨⟨g, rfl⟩, r, rfl, gd⟩
      dsimp only
      refine wpS_bind (wpS_lift (wpAny_rule ⟨rfl, ?_⟩))
      refine wpS_bind (wpS_mono (wpS_forRange (fun _ c st' => ∃ na nb out mg ac bc, c = (none, na, nb, out, mg, ac, bc) ∧ (∃ g, st' = setGal st g) ∧ MJ κ (a.toList ++ b.toList) out.toList.reverse (a.toList.take na) (b.toList.take nb) ∧ 1 ≤ na ∧ na ≤ a.size ∧ 2 ≤ nb ∧ nb ≤ b.size ∧ x + 2 ≤ out.size)
        (Q := fun c st' => (∃ g, st' = setGal st g) ∧ ((∃ r, c.1 = some r ∧ Gd κ (a.toList ++ b.toList) r) ∨ ∃ na nb out mg ac bc, c = (none, na, nb, out, mg, ac, bc) ∧ MJ κ (a.toList ++ b.toList) out.toList.reverse (a.toList.take na) (b.toList.take nb) ∧ 1 ≤ na ∧ na ≤ a.size ∧ 2 ≤ nb ∧ nb ≤ b.size ∧ x + 2 ≤ out.size)) ?step3 ?fin3 ⟨_, _, _, _, _, _, rfl, ⟨g, rfl⟩, m, i1, i2, i3, i4, sz⟩) ?post3)
      case fin3 =>
        rintro c st' ⟨na, nb, out, mg, ac, bc, rfl, hg, m, i⟩
        exact ⟨hg, .inr ⟨_, _, _, _, _, _, rfl, m, i⟩⟩
      case post3 =>
        rintro c st' ⟨⟨g, rfl⟩, hq⟩
        rcases hq with ⟨r, e, gd⟩ | ⟨na, nb, out, mg, ac, bc, rfl, m, i1, i2, i3, i4, sz⟩
        · obtain ⟨c1, c2⟩ := c
          cases e
          exact wpS_pure ⟨⟨g, rfl⟩, r, rfl, gd⟩
        dsimp only
        exact wpS_bind (wpS_modify (wpS_pure ⟨_, _, _, _, rfl, ⟨_, rfl⟩, m, ⟨i1, i2, i3, i4⟩, by omega⟩))
      case step3 =>
        rintro y c st' _ hy ⟨na, nb, out, mg, ac, bc, rfl, ⟨g, rfl⟩, m, i1, i2, i3, i4, sz⟩
        dsimp only
        by_cases cm : mg > 1
        · rw [if_pos cm]
          refine wpS_bind (wpS_modify ?_)
          obtain ⟨yb, eyb, dyb, myb⟩ := arr_pre (a := b) (i := nb) (by omega) (by omega)
          refine wpS_bind (wpS_elem eyb ?_)
          refine wpS_bind (go_right C (arr := a) (base := 0) (n := na) (hint := na - 1) hs.gal.gal (okb _ myb) oka (by omega) (by omega) (fun i j x y _ c2 _ ex ey => sa.get c2 ex ey) fun k hk le gt => ?_)
          dsimp only
          have ng : ∀ x ∈ a.toList.take k, O.kle (κ x) (κ yb) := fun x hx => by
            obtain ⟨j, j1, j2⟩ := mem_take hx
            exact le j x j1 (by rw [Nat.zero_add]; exact j2)
          by_cases ck : na - k > 0
          · rw [if_pos ck]
            have m2 := m.chunkA (k := k) hk (fun x hx z hz => by
              obtain ⟨j, j1, j2, j3⟩ := mem_ext2 hz
              exact KeyOrd.kle_trans (m.lastB dyb x hx) (KeyOrd.kle_of_klt (gt j z j1 j2 (by rw [Nat.zero_add]; exact j3))))
            by_cases c1 : k = 0
            · rw [if_pos (beq_iff_eq.mpr c1)]
              exact wpS_pure ⟨⟨_, rfl⟩, .inl ⟨_, rfl, m2.done (.inr c1)⟩⟩
            rw [if_neg (fun z => c1 (beq_iff_eq.mp z))]
            refine wpS_bind (wpS_elem eyb ?_)
            have m3 := m2.pushB dyb (ng)
            by_cases c3 : nb - 1 = 1
            · rw [if_pos (beq_iff_eq.mpr c3)]
              exact wpS_pure ⟨⟨_, rfl⟩, .inl ⟨_, rfl, m3.first c3 h1⟩⟩
            rw [if_neg (fun z => c3 (beq_iff_eq.mp z))]
            obtain ⟨xa, exa, dxa, mxa⟩ := arr_pre (a := a) (i := k) (by omega) (by omega)
            refine wpS_bind (wpS_elem exa ?_)
            refine wpS_bind (go_left C (arr := b) (base := 0) (n := nb - 1) (hint := nb - 1 - 1) hs.gal.gal (oka _ mxa) okb (by omega) (by omega) (fun i j x y _ c2 _ ex ey => sb.get c2 ex ey) fun k2 hk2 lt2 ge2 => ?_)
            dsimp only
            by_cases ck2 : nb - 1 - k2 > 0
            · rw [if_pos ck2]
              have m4 := m3.chunkB (k := k2) hk2 (fun x hx z hz => by
                obtain ⟨j, j1, j2, j3⟩ := mem_ext2 hz
                exact KeyOrd.kle_trans (m3.lastA dxa x hx) (ge2 j z j1 j2 (by rw [Nat.zero_add]; exact j3)))
              by_cases c4 : k2 = 1
              · rw [if_pos (beq_iff_eq.mpr c4)]
                exact wpS_pure ⟨⟨_, rfl⟩, .inl ⟨_, rfl, m4.first c4 h1⟩⟩
              rw [if_neg (fun z => c4 (beq_iff_eq.mp z))]
              by_cases c6 : k2 = 0
              · rw [if_pos (beq_iff_eq.mpr c6)]
                exact wpS_pure ⟨⟨_, rfl⟩, .inl ⟨_, rfl, m4.done (.inl c6)⟩⟩
              rw [if_neg (fun z => c6 (beq_iff_eq.mp z))]
              refine wpS_bind (wpS_elem exa ?_)
              have m5 := m4.pushA dxa (fun z hz => by
                obtain ⟨j, j1, j2⟩ := mem_take hz
                exact KeyOrd.kle_of_klt (lt2 j z j1 (by rw [Nat.zero_add]; exact j2)))
              by_cases c5 : k - 1 = 0
              · rw [if_pos (beq_iff_eq.mpr c5)]
                exact wpS_pure ⟨⟨_, rfl⟩, .inl ⟨_, rfl, m5.done (.inr c5)⟩⟩
              rw [if_neg (fun z => c5 (beq_iff_eq.mp z))]
              split
              · exact wpS_pure ⟨⟨_, rfl⟩, .inr ⟨_, _, _, _, _, _, rfl, m5, by omega, by omega, by omega, by omega, by simp only [Array.size_push, Array.size_append]; omega⟩⟩
              · exact wpS_pure ⟨_, _, _, _, _, _, rfl, ⟨_, rfl⟩, m5, by omega, by omega, by omega, by omega, by simp only [Array.size_push, Array.size_append]; omega⟩
            · rw [if_neg ck2]
              refine wpS_bind (wpS_elem exa ?_)
              have m5 := m3.pushA dxa (fun z hz => by
                obtain ⟨j, j1, j2⟩ := mem_take hz
                exact KeyOrd.kle_of_klt (lt2 j z (by omega) (by rw [Nat.zero_add]; exact j2)))
              by_cases c5 : k - 1 = 0
              · rw [if_pos (beq_iff_eq.mpr c5)]
                exact wpS_pure ⟨⟨_, rfl⟩, .inl ⟨_, rfl, m5.done (.inr c5)⟩⟩
              rw [if_neg (fun z => c5 (beq_iff_eq.mp z))]
              split
              · exact wpS_pure ⟨⟨_, rfl⟩, .inr ⟨_, _, _, _, _, _, rfl, m5, by omega, by omega, by omega, by omega, by simp only [Array.size_push, Array.size_append]; omega⟩⟩
              · exact wpS_pure ⟨_, _, _, _, _, _, rfl, ⟨_, rfl⟩, m5, by omega, by omega, by omega, by omega, by simp only [Array.size_push, Array.size_append]; omega⟩
          · rw [if_neg ck]
            have k0 : k = na := by omega
            rw [k0] at ng
            refine wpS_bind (wpS_elem eyb ?_)
            have m3 := m.pushB dyb (ng)
            by_cases c3 : nb - 1 = 1
            · rw [if_pos (beq_iff_eq.mpr c3)]
              exact wpS_pure ⟨⟨_, rfl⟩, .inl ⟨_, rfl, m3.first c3 h1⟩⟩
            rw [if_neg (fun z => c3 (beq_iff_eq.mp z))]
            obtain ⟨xa, exa, dxa, mxa⟩ := arr_pre (a := a) (i := na) (by omega) (by omega)
            refine wpS_bind (wpS_elem exa ?_)
            refine wpS_bind (go_left C (arr := b) (base := 0) (n := nb - 1) (hint := nb - 1 - 1) hs.gal.gal (oka _ mxa) okb (by omega) (by omega) (fun i j x y _ c2 _ ex ey => sb.get c2 ex ey) fun k2 hk2 lt2 ge2 => ?_)
            dsimp only
            by_cases ck2 : nb - 1 - k2 > 0
            · rw [if_pos ck2]
              have m4 := m3.chunkB (k := k2) hk2 (fun x hx z hz => by
                obtain ⟨j, j1, j2, j3⟩ := mem_ext2 hz
                exact KeyOrd.kle_trans (m3.lastA dxa x hx) (ge2 j z j1 j2 (by rw [Nat.zero_add]; exact j3)))
              by_cases c4 : k2 = 1
              · rw [if_pos (beq_iff_eq.mpr c4)]
                exact wpS_pure ⟨⟨_, rfl⟩, .inl ⟨_, rfl, m4.first c4 h1⟩⟩
              rw [if_neg (fun z => c4 (beq_iff_eq.mp z))]
              by_cases c6 : k2 = 0
              · rw [if_pos (beq_iff_eq.mpr c6)]
                exact wpS_pure ⟨⟨_, rfl⟩, .inl ⟨_, rfl, m4.done (.inl c6)⟩⟩
              rw [if_neg (fun z => c6 (beq_iff_eq.mp z))]
              refine wpS_bind (wpS_elem exa ?_)
              have m5 := m4.pushA dxa (fun z hz => by
                obtain ⟨j, j1, j2⟩ := mem_take hz
                exact KeyOrd.kle_of_klt (lt2 j z j1 (by rw [Nat.zero_add]; exact j2)))
              by_cases c5 : na - 1 = 0
              · rw [if_pos (beq_iff_eq.mpr c5)]
                exact wpS_pure ⟨⟨_, rfl⟩, .inl ⟨_, rfl, m5.done (.inr c5)⟩⟩
              rw [if_neg (fun z => c5 (beq_iff_eq.mp z))]
              split
              · exact wpS_pure ⟨⟨_, rfl⟩, .inr ⟨_, _, _, _, _, _, rfl, m5, by omega, by omega, by omega, by omega, by simp only [Array.size_push, Array.size_append]; omega⟩⟩
              · exact wpS_pure ⟨_, _, _, _, _, _, rfl, ⟨_, rfl⟩, m5, by omega, by omega, by omega, by omega, by simp only [Array.size_push, Array.size_append]; omega⟩
            · rw [if_neg ck2]
              refine wpS_bind (wpS_elem exa ?_)
              have m5 := m3.pushA dxa (fun z hz => by
                obtain ⟨j, j1, j2⟩ := mem_take hz
                exact KeyOrd.kle_of_klt (lt2 j z (by omega) (by rw [Nat.zero_add]; exact j2)))
              by_cases c5 : na - 1 = 0
              · rw [if_pos (beq_iff_eq.mpr c5)]
                exact wpS_pure ⟨⟨_, rfl⟩, .inl ⟨_, rfl, m5.done (.inr c5)⟩⟩
              rw [if_neg (fun z => c5 (beq_iff_eq.mp z))]
              split
              · exact wpS_pure ⟨⟨_, rfl⟩, .inr ⟨_, _, _, _, _, _, rfl, m5, by omega, by omega, by omega, by omega, by simp only [Array.size_push, Array.size_append]; omega⟩⟩
              · exact wpS_pure ⟨_, _, _, _, _, _, rfl, ⟨_, rfl⟩, m5, by omega, by omega, by omega, by omega, by simp only [Array.size_push, Array.size_append]; omega⟩
        · rw [if_neg cm]
          refine wpS_bind (wpS_modify ?_)
          obtain ⟨yb, eyb, dyb, myb⟩ := arr_pre (a := b) (i := nb) (by omega) (by omega)
          refine wpS_bind (wpS_elem eyb ?_)
          refine wpS_bind (go_right C (arr := a) (base := 0) (n := na) (hint := na - 1) hs.gal.gal (okb _ myb) oka (by omega) (by omega) (fun i j x y _ c2 _ ex ey => sa.get c2 ex ey) fun k hk le gt => ?_)
          dsimp only
          have ng : ∀ x ∈ a.toList.take k, O.kle (κ x) (κ yb) := fun x hx => by
            obtain ⟨j, j1, j2⟩ := mem_take hx
            exact le j x j1 (by rw [Nat.zero_add]; exact j2)
          by_cases ck : na - k > 0
          · rw [if_pos ck]
            have m2 := m.chunkA (k := k) hk (fun x hx z hz => by
              obtain ⟨j, j1, j2, j3⟩ := mem_ext2 hz
              exact KeyOrd.kle_trans (m.lastB dyb x hx) (KeyOrd.kle_of_klt (gt j z j1 j2 (by rw [Nat.zero_add]; exact j3))))
            by_cases c1 : k = 0
            · rw [if_pos (beq_iff_eq.mpr c1)]
              exact wpS_pure ⟨⟨_, rfl⟩, .inl ⟨_, rfl, m2.done (.inr c1)⟩⟩
            rw [if_neg (fun z => c1 (beq_iff_eq.mp z))]
            refine wpS_bind (wpS_elem eyb ?_)
            have m3 := m2.pushB dyb (ng)
            by_cases c3 : nb - 1 = 1
            · rw [if_pos (beq_iff_eq.mpr c3)]
              exact wpS_pure ⟨⟨_, rfl⟩, .inl ⟨_, rfl, m3.first c3 h1⟩⟩
            rw [if_neg (fun z => c3 (beq_iff_eq.mp z))]
            obtain ⟨xa, exa, dxa, mxa⟩ := arr_pre (a := a) (i := k) (by omega) (by omega)
            refine wpS_bind (wpS_elem exa ?_)
            refine wpS_bind (go_left C (arr := b) (base := 0) (n := nb - 1) (hint := nb - 1 - 1) hs.gal.gal (oka _ mxa) okb (by omega) (by omega) (fun i j x y _ c2 _ ex ey => sb.get c2 ex ey) fun k2 hk2 lt2 ge2 => ?_)
            dsimp only
            by_cases ck2 : nb - 1 - k2 > 0
            · rw [if_pos ck2]
              have m4 := m3.chunkB (k := k2) hk2 (fun x hx z hz => by
                obtain ⟨j, j1, j2, j3⟩ := mem_ext2 hz
                exact KeyOrd.kle_trans (m3.lastA dxa x hx) (ge2 j z j1 j2 (by rw [Nat.zero_add]; exact j3)))
              by_cases c4 : k2 = 1
              · rw [if_pos (beq_iff_eq.mpr c4)]
                exact wpS_pure ⟨⟨_, rfl⟩, .inl ⟨_, rfl, m4.first c4 h1⟩⟩
              rw [if_neg (fun z => c4 (beq_iff_eq.mp z))]
              by_cases c6 : k2 = 0
              · rw [if_pos (beq_iff_eq.mpr c6)]
                exact wpS_pure ⟨⟨_, rfl⟩, .inl ⟨_, rfl, m4.done (.inl c6)⟩⟩
              rw [if_neg (fun z => c6 (beq_iff_eq.mp z))]
              refine wpS_bind (wpS_elem exa ?_)
              have m5 := m4.pushA dxa (fun z hz => by
                obtain ⟨j, j1, j2⟩ := mem_take hz
                exact KeyOrd.kle_of_klt (lt2 j z j1 (by rw [Nat.zero_add]; exact j2)))
              by_cases c5 : k - 1 = 0
              · rw [if_pos (beq_iff_eq.mpr c5)]
                exact wpS_pure ⟨⟨_, rfl⟩, .inl ⟨_, rfl, m5.done (.inr c5)⟩⟩
              rw [if_neg (fun z => c5 (beq_iff_eq.mp z))]
              split
              · exact wpS_pure ⟨⟨_, rfl⟩, .inr ⟨_, _, _, _, _, _, rfl, m5, by omega, by omega, by omega, by omega, by simp only [Array.size_push, Array.size_append]; omega⟩⟩
              · exact wpS_pure ⟨_, _, _, _, _, _, rfl, ⟨_, rfl⟩, m5, by omega, by omega, by omega, by omega, by simp only [Array.size_push, Array.size_append]; omega⟩
            · rw [if_neg ck2]
              refine wpS_bind (wpS_elem exa ?_)
              have m5 := m3.pushA dxa (fun z hz => by
                obtain ⟨j, j1, j2⟩ := mem_take hz
                exact KeyOrd.kle_of_klt (lt2 j z (by omega) (by rw [Nat.zero_add]; exact j2)))
              by_cases c5 : k - 1 = 0
              · rw [if_pos (beq_iff_eq.mpr c5)]
                exact wpS_pure ⟨⟨_, rfl⟩, .inl ⟨_, rfl, m5.done (.inr c5)⟩⟩
              rw [if_neg (fun z => c5 (beq_iff_eq.mp z))]
              split
              · exact wpS_pure ⟨⟨_, rfl⟩, .inr ⟨_, _, _, _, _, _, rfl, m5, by omega, by omega, by omega, by omega, by simp only [Array.size_push, Array.size_append]; omega⟩⟩
              · exact wpS_pure ⟨_, _, _, _, _, _, rfl, ⟨_, rfl⟩, m5, by omega, by omega, by omega, by omega, by simp only [Array.size_push, Array.size_append]; omega⟩
          · rw [if_neg ck]
            have k0 : k = na := by omega
            rw [k0] at ng
            refine wpS_bind (wpS_elem eyb ?_)
            have m3 := m.pushB dyb (ng)
            by_cases c3 : nb - 1 = 1
            · rw [if_pos (beq_iff_eq.mpr c3)]
              exact wpS_pure ⟨⟨_, rfl⟩, .inl ⟨_, rfl, m3.first c3 h1⟩⟩
            rw [if_neg (fun z => c3 (beq_iff_eq.mp z))]
            obtain ⟨xa, exa, dxa, mxa⟩ := arr_pre (a := a) (i := na) (by omega) (by omega)
            refine wpS_bind (wpS_elem exa ?_)
            refine wpS_bind (go_left C (arr := b) (base := 0) (n := nb - 1) (hint := nb - 1 - 1) hs.gal.gal (oka _ mxa) okb (by omega) (by omega) (fun i j x y _ c2 _ ex ey => sb.get c2 ex ey) fun k2 hk2 lt2 ge2 => ?_)
            dsimp only
            by_cases ck2 : nb - 1 - k2 > 0
            · rw [if_pos ck2]
              have m4 := m3.chunkB (k := k2) hk2 (fun x hx z hz => by
                obtain ⟨j, j1, j2, j3⟩ := mem_ext2 hz
                exact KeyOrd.kle_trans (m3.lastA dxa x hx) (ge2 j z j1 j2 (by rw [Nat.zero_add]; exact j3)))
              by_cases c4 : k2 = 1
              · rw [if_pos (beq_iff_eq.mpr c4)]
                exact wpS_pure ⟨⟨_, rfl⟩, .inl ⟨_, rfl, m4.first c4 h1⟩⟩
              rw [if_neg (fun z => c4 (beq_iff_eq.mp z))]
              by_cases c6 : k2 = 0
              · rw [if_pos (beq_iff_eq.mpr c6)]
                exact wpS_pure ⟨⟨_, rfl⟩, .inl ⟨_, rfl, m4.done (.inl c6)⟩⟩
              rw [if_neg (fun z => c6 (beq_iff_eq.mp z))]
              refine wpS_bind (wpS_elem exa ?_)
              have m5 := m4.pushA dxa (fun z hz => by
                obtain ⟨j, j1, j2⟩ := mem_take hz
                exact KeyOrd.kle_of_klt (lt2 j z j1 (by rw [Nat.zero_add]; exact j2)))
              by_cases c5 : na - 1 = 0
              · rw [if_pos (beq_iff_eq.mpr c5)]
                exact wpS_pure ⟨⟨_, rfl⟩, .inl ⟨_, rfl, m5.done (.inr c5)⟩⟩
              rw [if_neg (fun z => c5 (beq_iff_eq.mp z))]
              split
              · exact wpS_pure ⟨⟨_, rfl⟩, .inr ⟨_, _, _, _, _, _, rfl, m5, by omega, by omega, by omega, by omega, by simp only [Array.size_push, Array.size_append]; omega⟩⟩
              · exact wpS_pure ⟨_, _, _, _, _, _, rfl, ⟨_, rfl⟩, m5, by omega, by omega, by omega, by omega, by simp only [Array.size_push, Array.size_append]; omega⟩
            · rw [if_neg ck2]
              refine wpS_bind (wpS_elem exa ?_)
              have m5 := m3.pushA dxa (fun z hz => by
                obtain ⟨j, j1, j2⟩ := mem_take hz
                exact KeyOrd.kle_of_klt (lt2 j z (by omega) (by rw [Nat.zero_add]; exact j2)))
              by_cases c5 : na - 1 = 0
              · rw [if_pos (beq_iff_eq.mpr c5)]
                exact wpS_pure ⟨⟨_, rfl⟩, .inl ⟨_, rfl, m5.done (.inr c5)⟩⟩
              rw [if_neg (fun z => c5 (beq_iff_eq.mp z))]
              split
              · exact wpS_pure ⟨⟨_, rfl⟩, .inr ⟨_, _, _, _, _, _, rfl, m5, by omega, by omega, by omega, by omega, by simp only [Array.size_push, Array.size_append]; omega⟩⟩
              · exact wpS_pure ⟨_, _, _, _, _, _, rfl, ⟨_, rfl⟩, m5, by omega, by omega, by omega, by omega, by simp only [Array.size_push, Array.size_append]; omega⟩

end
end L2

set_option Elab.async false
set_option linter.all false
set_option maxRecDepth 100000
set_option maxHeartbeats 1000000
namespace L2
open PySem PySem.Spec PyProof.Rows
section
variable {O : KeyOrd} {κ : Keyed → O.α}
def SegU (κ : Keyed → O.α) (arr : Array Keyed) (lo hi : Nat) : Prop := ∀ i j x y, lo ≤ i → i ≤ j → j < hi → arr[i]? = some x → arr[j]? = some y → O.kle (κ x) (κ y)
def putAt (arr : Array Keyed) (sa : Nat) (l : List Keyed) (n : Nat) : Array Keyed := (l.zipIdx n).foldl (fun a (p, j) => a.setIfInBounds (sa + j) p) arr
theorem putAt_get : ∀ (l : List Keyed) (arr : Array Keyed) (sa n k : Nat), sa + n + l.length ≤ arr.size → (putAt arr sa l n)[k]? = if sa + n ≤ k ∧ k < sa + n + l.length then l[k - sa - n]? else arr[k]?
  | [], arr, sa, n, k, h => by
    show arr[k]? = _
    rw [if_neg (by simp)]
  | x :: r, arr, sa, n, k, h => by
    show (putAt (arr.setIfInBounds (sa + n) x) sa r (n + 1))[k]? = _
    rw [List.length_cons] at h ⊢
    rw [putAt_get r _ sa (n + 1) k (by rw [Array.size_setIfInBounds]; omega), Array.getElem?_setIfInBounds]
    by_cases c : sa + n = k
    · rw [if_neg (by omega), if_pos c, if_pos (by omega), if_pos (by omega), show k - sa - n = 0 by omega]
      rfl
    · rw [if_neg c]
      by_cases c2 : sa + (n + 1) ≤ k ∧ k < sa + (n + 1) + r.length
      · rw [if_pos c2, if_pos (by omega), show k - sa - n = (k - sa - (n + 1)) + 1 by omega, List.getElem?_cons_succ]
      · rw [if_neg c2, if_neg (by omega)]
theorem putAt_list {l : List Keyed} {arr : Array Keyed} {sa : Nat} (h : sa + l.length ≤ arr.size) : (putAt arr sa l 0).toList = arr.toList.take sa ++ (l ++ arr.toList.drop (sa + l.length)) := by
  apply List.ext_getElem?
  intro k
  have e := putAt_get l arr sa 0 k (by omega)
  have hl : (arr.toList.take sa).length = sa := by
    rw [List.length_take]
    have : arr.toList.length = arr.size := Array.length_toList
    omega
  rw [Array.getElem?_toList, e, List.getElem?_append, List.getElem?_append, hl, List.getElem?_take, List.getElem?_drop]
  by_cases c1 : k < sa
  · rw [if_neg (by omega), if_pos c1, if_pos c1, Array.getElem?_toList]
  · rw [if_neg c1]
    by_cases c2 : k - sa < l.length
    · rw [if_pos (by omega), if_pos c2, show k - sa - 0 = k - sa by omega]
    · rw [if_neg (by omega), if_neg c2, show sa + l.length + (k - sa - l.length) = k by omega, Array.getElem?_toList]
theorem SegU.srd {arr : Array Keyed} {lo hi : Nat} (h : SegU κ arr lo hi) (hs : hi ≤ arr.size) : Srd κ (arr.extract lo hi).toList := by
  refine List.pairwise_iff_getElem.mpr fun i j l1 l2 hij => ?_
  rw [Array.length_toList, Array.size_extract] at l1 l2
  refine h (lo + i) (lo + j) _ _ (by omega) (by omega) (by omega) ?_ ?_
  · rw [Array.getElem_toList, Array.getElem_extract]; exact Array.getElem?_eq_getElem _
  · rw [Array.getElem_toList, Array.getElem_extract]; exact Array.getElem?_eq_getElem _
theorem SegU.mono {arr : Array Keyed} {lo hi lo' hi' : Nat} (h : SegU κ arr lo hi) (h1 : lo ≤ lo') (h2 : hi' ≤ hi) : SegU κ arr lo' hi' := fun i j x y a b c => h i j x y (by omega) b (by omega)
theorem SegU.same {arr arr' : Array Keyed} {lo hi : Nat} (h : SegU κ arr lo hi) (e : ∀ i, lo ≤ i → i < hi → arr'[i]? = arr[i]?) : SegU κ arr' lo hi := fun i j x y a b c hx hy => h i j x y a b c (by rw [← e i a (by omega)]; exact hx) (by rw [← e j (by omega) c]; exact hy)
/-- two runs side by side -/
theorem SegU.join {arr : Array Keyed} {lo mid hi : Nat} (h1 : SegU κ arr lo mid) (h2 : SegU κ arr mid hi) (h : ∀ i j x y, lo ≤ i → i < mid → mid ≤ j → j < hi → arr[i]? = some x → arr[j]? = some y → O.kle (κ x) (κ y)) : SegU κ arr lo hi := fun i j x y a b c hx hy => by
  rcases Nat.lt_or_ge j mid with d | d
  · exact h1 i j x y a b d hx hy
  · rcases Nat.lt_or_ge i mid with d2 | d2
    · exact h i j x y a d2 d c hx hy
    · exact h2 i j x y d2 b c hx hy
end
section
variable {prog : Program} {w : World} {A : Around} {E : Value → Shared → Prop} {s : Shared} {O : KeyOrd} {κ : Keyed → O.α} {ok : Keyed → Prop} {kd : SortKind}
theorem wpS_set {M : Model} {x : SortSt} {Q : PUnit → SortSt → Prop} {st : SortSt} (h : Q ⟨⟩ x) : wpS M A E s (set x : StateT SortSt Sem PUnit) Q st := by
  unfold wpS; rw [StateT.run_set]; exact wpAny_pure ⟨rfl, h⟩
theorem srd_list {l : List Keyed} (h : Srd κ l) {i j : Nat} {x y : Keyed} (hij : i ≤ j) (hx : l[i]? = some x) (hy : l[j]? = some y) : O.kle (κ x) (κ y) := by
  have := Srd.get (κ := κ) (a := l.toArray) h hij (by simpa using hx) (by simpa using hy)
  exact this
/-- what a merge leaves -/
structure Mg (κ : Keyed → O.α) (kd : SortKind) (arr : Array Keyed) (lo hi : Nat) (p : Array (Nat × Nat × Nat)) (st' : SortSt) : Prop where
  sx : Sx kd st'
  perm : (arrOf st').toList.Perm arr.toList
  pend : pendingOf st' = p
  out : ∀ k, (k < lo ∨ hi ≤ k) → (arrOf st')[k]? = arr[k]?
  seg : SegU κ (arrOf st') lo hi
theorem go_mergeAt (C : Cm (model prog w) A E s κ ok kd) {st : SortSt} (hs : Sx kd st) (hok : ∀ x ∈ arrOf st, ok x) {i sa na pw nb pw2 : Nat} {Q : Bool → SortSt → Prop} (e1 : (pendingOf st)[i]? = some (sa, na, pw)) (e2 : (pendingOf st)[i + 1]? = some (sa + na, nb, pw2))
    (n1 : 1 ≤ na) (n2 : 1 ≤ nb) (hz : sa + na + nb ≤ (arrOf st).size) (s1 : SegU κ (arrOf st) sa (sa + na)) (s2 : SegU κ (arrOf st) (sa + na) (sa + na + nb))
    (q : ∀ st', Mg κ kd (arrOf st) sa (sa + na + nb) (((pendingOf st).setIfInBounds i (sa, na + nb, pw)).eraseIdxIfInBounds (i + 1)) st' → Q true st') : wpS (model prog w) A E s (mergeAt' i) Q st := by
  refine wpS_bind (wpS_get ?_)
  rw [e1, e2]
  dsimp only
  refine wpS_bind (wpS_set ?_)
  have hs1 : Sx kd (setPending st (((pendingOf st).setIfInBounds i (sa, na + nb, pw)).eraseIdxIfInBounds (i + 1))) := hs
  generalize ((pendingOf st).setIfInBounds i (sa, na + nb, pw)).eraseIdxIfInBounds (i + 1) = P at q hs1 ⊢
  have eb : (arrOf st)[sa + na]? = some (arrOf st)[sa + na] := Array.getElem?_eq_getElem (by omega)
  have okb : ok (arrOf st)[sa + na] := hok _ (Array.getElem_mem (by omega))
  generalize (arrOf st)[sa + na] = xb at eb okb
  have el : (arrOf st)[sa + na - 1]? = some (arrOf st)[sa + na - 1] := Array.getElem?_eq_getElem (by omega)
  have okl : ok (arrOf st)[sa + na - 1] := hok _ (Array.getElem_mem (by omega))
  generalize (arrOf st)[sa + na - 1] = xl at el okl
  refine wpS_bind (wpS_elem eb ?_)
  refine wpS_bind (go_right C (arr := arrOf st) (base := sa) (n := na) (hint := 0) hs1 okb hok (by omega) (by omega) s1 fun k hk le gt => ?_)
  dsimp only
  have leA : ∀ i x, sa ≤ i → i < sa + k → (arrOf st)[i]? = some x → O.kle (κ x) (κ xb) := fun i x a1 a2 ex => le (i - sa) x (by omega) (by rw [show sa + (i - sa) = i by omega]; exact ex)
  have gtA : ∀ i x, sa + k ≤ i → i < sa + na → (arrOf st)[i]? = some x → O.kle (κ xb) (κ x) := fun i x a1 a2 ex => KeyOrd.kle_of_klt (gt (i - sa) x (by omega) (by omega) (by rw [show sa + (i - sa) = i by omega]; exact ex))
  by_cases c1 : na - k = 0
  · rw [if_pos (beq_iff_eq.mpr c1)]
    refine wpS_pure (q _ ⟨hs1, List.Perm.refl _, rfl, fun _ _ => rfl, s1.join s2 fun i j x y a1 a2 a3 a4 ex ey => ?_⟩)
    exact KeyOrd.kle_trans (leA i x a1 (by omega) ex) (s2 (sa + na) j xb y (by omega) a3 a4 eb ey)
  rw [if_neg (fun z => c1 (beq_iff_eq.mp z))]
  rw [show sa + k + (na - k) - 1 = sa + na - 1 by omega]
  refine wpS_bind (wpS_elem el ?_)
  refine wpS_bind (go_left C (arr := arrOf st) (base := sa + na) (n := nb) (hint := nb - 1) hs1 okl hok (by omega) (by omega) s2 fun k2 hk2 lt2 ge2 => ?_)
  dsimp only
  have ltB : ∀ i x, sa + na ≤ i → i < sa + na + k2 → (arrOf st)[i]? = some x → O.kle (κ x) (κ xl) := fun i x a1 a2 ex => KeyOrd.kle_of_klt (lt2 (i - (sa + na)) x (by omega) (by rw [show sa + na + (i - (sa + na)) = i by omega]; exact ex))
  have geB : ∀ i x, sa + na + k2 ≤ i → i < sa + na + nb → (arrOf st)[i]? = some x → O.kle (κ xl) (κ x) := fun i x a1 a2 ex => ge2 (i - (sa + na)) x (by omega) (by omega) (by rw [show sa + na + (i - (sa + na)) = i by omega]; exact ex)
  clear le gt lt2 ge2
  by_cases c2 : k2 = 0
  · rw [if_pos (beq_iff_eq.mpr c2)]
    refine wpS_pure (q _ ⟨hs1, List.Perm.refl _, rfl, fun _ _ => rfl, s1.join s2 fun i j x y a1 a2 a3 a4 ex ey => ?_⟩)
    exact KeyOrd.kle_trans (s1 i (sa + na - 1) x xl a1 (by omega) (by omega) ex el) (geB j y (by omega) a4 ey)
  rw [if_neg (fun z => c2 (beq_iff_eq.mp z))]
  obtain ⟨X, hX⟩ : ∃ X, X = (arrOf st).extract (sa + k) (sa + na) := ⟨_, rfl⟩
  obtain ⟨Y, hY⟩ : ∃ Y, Y = (arrOf st).extract (sa + na) (sa + na + k2) := ⟨_, rfl⟩
  rw [← hX, ← hY]
  have zX : X.size = na - k := by rw [hX, Array.size_extract]; omega
  have zY : Y.size = k2 := by rw [hY, Array.size_extract]; omega
  have mX : ∀ x ∈ X.toList, ∃ j, sa + k ≤ j ∧ j < sa + na ∧ (arrOf st)[j]? = some x := fun x hx => mem_ext2 (by rw [← hX]; exact hx)
  have mY : ∀ x ∈ Y.toList, ∃ j, sa + na ≤ j ∧ j < sa + na + k2 ∧ (arrOf st)[j]? = some x := fun x hx => mem_ext2 (by rw [← hY]; exact hx)
  have okX : ∀ x ∈ X, ok x := fun x hx => by
    obtain ⟨j, _, _, e⟩ := mX x (by simpa using hx)
    exact hok x (Array.mem_of_getElem? e)
  have okY : ∀ x ∈ Y, ok x := fun x hx => by
    obtain ⟨j, _, _, e⟩ := mY x (by simpa using hx)
    exact hok x (Array.mem_of_getElem? e)
  have sX : Srd κ X.toList := by rw [hX]; exact (s1.mono (by omega) (Nat.le_refl _)).srd (by omega)
  have sY : Srd κ Y.toList := by rw [hY]; exact (s2.mono (Nat.le_refl _) (by omega)).srd (by omega)
  have b0 : Y[0]? = some xb := by
    rw [hY, Array.getElem?_extract, if_pos (by omega)]
    exact eb
  have al : X[X.size - 1]? = some xl := by
    rw [zX, hX, Array.getElem?_extract, if_pos (by omega), show sa + k + (na - k - 1) = sa + na - 1 by omega]
    exact el
  have p1 : ∀ x ∈ X, ∀ y, Y[0]? = some y → O.kle (κ y) (κ x) := fun x hx y hy => by
    rw [b0] at hy; cases hy
    obtain ⟨j, j1, j2, e⟩ := mX x (by simpa using hx)
    exact gtA j x j1 j2 e
  have p2 : ∀ y ∈ Y, ∀ x, X[X.size - 1]? = some x → O.kle (κ y) (κ x) := fun y hy x hx => by
    rw [al] at hx; cases hx
    obtain ⟨j, j1, j2, e⟩ := mY y (by simpa using hy)
    exact ltB j y j1 j2 e
  have fin : ∀ out g, Gd κ (X.toList ++ Y.toList) out → Mg κ kd (arrOf st) sa (sa + na + nb) P (setArr (setGal (setPending st P) g) (putAt (arrOf st) (sa + k) out.toList 0)) := by
    intro out g gd
    have zo : out.toList.length = na - k + k2 := by
      have := gd.2.length_eq
      have l1 : X.toList.length = X.size := Array.length_toList
      have l2 : Y.toList.length = Y.size := Array.length_toList
      rw [List.length_append] at this
      omega
    have hfit : sa + k + out.toList.length ≤ (arrOf st).size := by omega
    have gt' := fun j => putAt_get out.toList (arrOf st) (sa + k) 0 j (by omega)
    have cls : ∀ i x, (putAt (arrOf st) (sa + k) out.toList 0)[i]? = some x → (i < sa + k ∧ (arrOf st)[i]? = some x) ∨ (sa + k ≤ i ∧ i < sa + na + k2 ∧ out.toList[i - (sa + k) - 0]? = some x) ∨ (sa + na + k2 ≤ i ∧ (arrOf st)[i]? = some x) := by
      intro i x e
      rw [gt' i] at e
      split at e
      · rename_i c; exact .inr (.inl ⟨by omega, by omega, e⟩)
      · rename_i c
        by_cases d : i < sa + k
        · exact .inl ⟨d, e⟩
        · exact .inr (.inr ⟨by omega, e⟩)
    have mO : ∀ x ∈ out.toList, (∃ j, sa + k ≤ j ∧ j < sa + na ∧ (arrOf st)[j]? = some x) ∨ ∃ j, sa + na ≤ j ∧ j < sa + na + k2 ∧ (arrOf st)[j]? = some x := fun x hx => by
      rcases List.mem_append.mp (gd.2.mem_iff.mp hx) with h | h
      · exact .inl (mX x h)
      · exact .inr (mY x h)
    refine ⟨hs1, ?_, rfl, fun j hj => ?_, ?_⟩
    · show (putAt (arrOf st) (sa + k) out.toList 0).toList.Perm _
      rw [putAt_list hfit]
      have e3 : (arrOf st).toList = (arrOf st).toList.take (sa + k) ++ (X.toList ++ Y.toList ++ (arrOf st).toList.drop (sa + na + k2)) := by
        have d1 := ext_drop (a := arrOf st) (i := sa + k) (k := na - k)
        have d2 := ext_drop (a := arrOf st) (i := sa + na) (k := k2)
        rw [show sa + k + (na - k) = sa + na by omega, ← hX] at d1
        rw [← hY] at d2
        rw [List.append_assoc, ← d2, ← d1, List.take_append_drop]
      rw [show sa + k + out.toList.length = sa + na + k2 by omega]
      have e4 : ((arrOf st).toList.take (sa + k) ++ (out.toList ++ (arrOf st).toList.drop (sa + na + k2))).Perm ((arrOf st).toList.take (sa + k) ++ (X.toList ++ Y.toList ++ (arrOf st).toList.drop (sa + na + k2))) := List.Perm.append_left _ (List.Perm.append_right _ gd.2)
      rw [← e3] at e4
      exact e4
    · show (putAt (arrOf st) (sa + k) out.toList 0)[j]? = _
      rw [gt' j, if_neg (by omega)]
    · intro i j x y a1 a2 a3 ex ey
      have ex' : (putAt (arrOf st) (sa + k) out.toList 0)[i]? = some x := ex
      have ey' : (putAt (arrOf st) (sa + k) out.toList 0)[j]? = some y := ey
      rcases cls i x ex' with ⟨q1, q2⟩ | ⟨q1, q2, q3⟩ | ⟨q1, q2⟩
      · have xl1 := leA i x a1 q1 q2
        rcases cls j y ey' with ⟨r1, r2⟩ | ⟨r1, r2, r3⟩ | ⟨r1, r2⟩
        · exact s1 i j x y a1 a2 (by omega) q2 r2
        · rcases mO y (List.mem_of_getElem? r3) with ⟨l, l1, l2, l3⟩ | ⟨l, l1, l2, l3⟩
          · exact s1 i l x y a1 (by omega) l2 q2 l3
          · exact KeyOrd.kle_trans xl1 (s2 (sa + na) l xb y (by omega) l1 (by omega) eb l3)
        · exact KeyOrd.kle_trans xl1 (s2 (sa + na) j xb y (by omega) (by omega) a3 eb r2)
      · rcases cls j y ey' with ⟨r1, r2⟩ | ⟨r1, r2, r3⟩ | ⟨r1, r2⟩
        · omega
        · exact srd_list gd.1 (by omega) q3 r3
        · rcases mO x (List.mem_of_getElem? q3) with ⟨l, l1, l2, l3⟩ | ⟨l, l1, l2, l3⟩
          · exact KeyOrd.kle_trans (s1 l (sa + na - 1) x xl (by omega) (by omega) (by omega) l3 el) (geB j y r1 a3 r2)
          · exact s2 l j x y l1 (by omega) a3 l3 r2
      · rcases cls j y ey' with ⟨r1, r2⟩ | ⟨r1, r2, r3⟩ | ⟨r1, r2⟩
        · omega
        · omega
        · exact s2 i j x y (by omega) a2 a3 q2 r2
  have fin2 : ∀ out g, Gd κ (X.toList ++ Y.toList) out → wpS (model prog w) A E s (do
        modify fun s => setArr s (List.foldl (fun a x => a.setIfInBounds (sa + k + x.snd) x.fst) (arrOf s) out.toList.zipIdx)
        let __do_lift ← get
        pure (failedOf __do_lift).isNone) Q (setGal (setPending st P) g) := by
    intro out g gd
    refine wpS_bind (wpS_modify (wpS_bind (wpS_get ?_)))
    have hf : failedOf st = none := hs.2
    show wpS _ _ _ _ (pure (failedOf st).isNone) _ _
    rw [hf]
    exact wpS_pure (q _ (fin out g gd))
  by_cases c3 : na - k ≤ k2
  · rw [if_pos c3]
    exact wpS_bind (go_mergeLo C hs1 okX okY sX sY (by omega) (by omega) p1 p2 fin2)
  · rw [if_neg c3]
    exact wpS_bind (go_mergeHi C hs1 okX okY sX sY (by omega) (by omega) p1 p2 fin2)
end
end L2

set_option Elab.async false
set_option linter.all false
set_option maxRecDepth 100000
set_option maxHeartbeats 1000000
namespace L2
open PySem PySem.Spec PyProof.Rows
/-! runs at any place of the row -/
section
variable {O : KeyOrd} (κ : Keyed → O.α) (d : O.α) (lo : Nat)
def fs (xs : Array Keyed) (i : Nat) : O.α := fk κ d xs (lo + i)
theorem fs_turn {xs : Array Keyed} {i j : Nat} (hj : lo + j ≤ xs.size) (k : Nat) : fs κ d lo (mirror xs (lo + i) (lo + j) ((lo + j - (lo + i)) / 2)) k = if i ≤ k ∧ k < j then fs κ d lo xs (i + j - 1 - k) else fs κ d lo xs k := by
  unfold fs
  rw [fk_turn κ d hj]
  by_cases c : i ≤ k ∧ k < j
  · rw [if_pos (by omega), if_pos c, show lo + i + (lo + j) - 1 - (lo + k) = lo + (i + j - 1 - k) by omega]
  · rw [if_neg (by omega), if_neg c]
theorem fs_flat {xs : Array Keyed} {i j : Nat} (hj : lo + j ≤ xs.size) (h : ∀ k, i ≤ k → k < j → fs κ d lo xs k = fs κ d lo xs (j - 1)) (k : Nat) : fs κ d lo (mirror xs (lo + i) (lo + j) ((lo + j - (lo + i)) / 2)) k = fs κ d lo xs k := by
  rw [fs_turn κ d lo hj]
  split
  · rename_i c
    rw [h _ (by omega) (by omega), ← h k c.1 c.2]
  · rfl
theorem fs_down {xs : Array Keyed} {x l : Nat} (ha : lo + x < xs.size) (hb : l ≤ x) (k : Nat) : fs κ d lo (bubble xs (lo + x) (lo + x - (lo + l))) k = if k = l then fs κ d lo xs x else if l < k ∧ k ≤ x then fs κ d lo xs (k - 1) else fs κ d lo xs k := by
  unfold fs
  rw [fk_down κ d ha (by omega), show lo + x - (lo + x - (lo + l)) = lo + l by omega]
  by_cases c1 : k = l
  · rw [if_pos (by omega), if_pos c1]
  · rw [if_neg (by omega), if_neg c1]
    by_cases c2 : l < k ∧ k ≤ x
    · rw [if_pos (by omega), if_pos c2, show lo + k - 1 = lo + (k - 1) by omega]
    · rw [if_neg (by omega), if_neg c2]
theorem turn_out {xs : Array Keyed} {i j k : Nat} (hj : lo + j ≤ xs.size) (h : k < lo) : (mirror xs (lo + i) (lo + j) ((lo + j - (lo + i)) / 2))[k]? = xs[k]? := by
  rw [getElem?_mirror_all hj, if_neg (by omega)]
theorem down_out {xs : Array Keyed} {x l k : Nat} (ha : lo + x < xs.size) (hb : l ≤ x) (h : k < lo) : (bubble xs (lo + x) (lo + x - (lo + l)))[k]? = xs[k]? := by
  rw [getElem?_bubble ha _ (by omega), if_neg (by omega), if_neg (by omega)]
variable {κ d lo}
theorem up_seg {xs : Array Keyed} {n : Nat} (h : Up (fs κ d lo xs) n) : SegU κ xs lo (lo + n) := fun i j x y a b c ex ey => by
  have := h (i - lo) (j - lo) (by omega) (by omega)
  unfold fs fk at this
  rw [show lo + (i - lo) = i by omega, show lo + (j - lo) = j by omega, ex, ey] at this
  exact this
end
/-- what a run's making leaves as it was -/
structure Rl (kd : SortKind) (lo : Nat) (st st' : SortSt) : Prop where
  sx : Sx kd st'
  perm : (arrOf st').Perm (arrOf st)
  pend : pendingOf st' = pendingOf st
  out : ∀ k, k < lo → (arrOf st')[k]? = (arrOf st)[k]?
section
variable {prog : Program} {w : World} {A : Around} {E : Value → Shared → Prop} {s : Shared} {O : KeyOrd} {κ : Keyed → O.α} {ok : Keyed → Prop} {kd : SortKind} {d : O.α} {lo n : Nat} {st0 : SortSt}
theorem Rl.refl {st : SortSt} (h : Sx kd st) : Rl kd lo st st := ⟨h, Array.Perm.refl _, rfl, fun _ _ => rfl⟩
theorem Rl.put {st : SortSt} (h : Rl kd lo st0 st) {xs : Array Keyed} (p : xs.Perm (arrOf st)) (o : ∀ k, k < lo → xs[k]? = (arrOf st)[k]?) : Rl kd lo st0 (setArr st xs) := ⟨h.sx, p.trans h.perm, h.pend, fun k hk => (o k hk).trans (h.out k hk)⟩
/-- what is known while a run is made -/
structure Mkr (M : Model) (A : Around) (E : Value → Shared → Prop) (s : Shared) (κ : Keyed → O.α) (ok : Keyed → Prop) (kd : SortKind) (lo n : Nat) (st0 : SortSt) : Prop where
  C : Cm M A E s κ ok kd
  ok : ∀ x ∈ arrOf st0, ok x
  sz : lo + n ≤ (arrOf st0).size
theorem Mkr.size (S : Mkr (model prog w) A E s κ ok kd lo n st0) {st : SortSt} (h : Rl kd lo st0 st) : lo + n ≤ (arrOf st).size := by rw [h.perm.size_eq]; exact S.sz
theorem Mkr.lt (S : Mkr (model prog w) A E s κ ok kd lo n st0) {st : SortSt} (h : Rl kd lo st0 st) {i j : Nat} {Q : Option Bool → SortSt → Prop} (hi : i < n) (hj : j < n) (q : Q (some (O.blt (fs κ d lo (arrOf st) i) (fs κ d lo (arrOf st) j))) st) : wpS (model prog w) A E s (ltAt' (lo + i) (lo + j)) Q st := by
  have z := S.size h
  have ei : (arrOf st)[lo + i]? = some (arrOf st)[lo + i] := Array.getElem?_eq_getElem (by omega)
  have ej : (arrOf st)[lo + j]? = some (arrOf st)[lo + j] := Array.getElem?_eq_getElem (by omega)
  have oi : ok (arrOf st)[lo + i] := S.ok _ (h.perm.mem_iff.mp (Array.getElem_mem (by omega)))
  have oj : ok (arrOf st)[lo + j] := S.ok _ (h.perm.mem_iff.mp (Array.getElem_mem (by omega)))
  rw [ltAt'_eq]
  refine wpS_bind (wpS_get ?_)
  show wpS _ _ _ _ (do let x ← elem' (arrOf st) (lo + i); let y ← elem' (arrOf st) (lo + j); lt' x y) Q st
  refine wpS_bind (wpS_elem ei (wpS_bind (wpS_elem ej (S.C.lt h.sx.1 h.sx.2 oi oj ?_))))
  unfold fs fk at q
  rw [ei, ej] at q
  exact q
end
end L2

set_option Elab.async false
set_option linter.all false
set_option maxRecDepth 100000
set_option maxHeartbeats 1000000
namespace L2
open PySem PySem.Spec PyProof.Rows
section
variable {prog : Program} {w : World} {A : Around} {E : Value → Shared → Prop} {s : Shared} {O : KeyOrd} {κ : Keyed → O.α} {ok : Keyed → Prop} {kd : SortKind} {lo n : Nat} {st0 : SortSt} (d : O.α)
theorem Rl.turn {st : SortSt} (h : Rl kd lo st0 st) {i j : Nat} (hj : lo + j ≤ (arrOf st).size) : Rl kd lo st0 (setArr st (mirror (arrOf st) (lo + i) (lo + j) ((lo + j - (lo + i)) / 2))) := h.put (mirror_perm _ _ _ _) fun k hk => turn_out lo hj hk
/-- a rising run is walked -/
theorem run_asc (S : Mkr (model prog w) A E s κ ok kd lo n st0) {st : SortSt} (hb : Rl kd lo st0 st) {a m : Nat} (h1 : 1 ≤ a) (ham : a ≤ m) (hmn : m ≤ n) (up : Up (fs κ d lo (arrOf st)) a) {f : Nat → AscSt → StateT SortSt Sem (ForInStep AscSt)}
    (hf : ∀ x k b (R : ForInStep AscSt → SortSt → Prop), (∀ T : Option Bool → SortSt → Prop, T (some b) st → wpS (model prog w) A E s (ltAt' (lo + k) (lo + k - 1)) T st) → R (if b then .done (none, k) else .yield (none, k + 1)) st → wpS (model prog w) A E s (f x (none, k)) R st) {Q : AscSt → SortSt → Prop}
    (q : ∀ k, a ≤ k → k ≤ m → Up (fs κ d lo (arrOf st)) k → (k = m ∨ O.klt (fs κ d lo (arrOf st) k) (fs κ d lo (arrOf st) (k - 1))) → Q (none, k) st) : wpS (model prog w) A E s (forIn [a:m] ((none, a) : AscSt) f) Q st := by
  refine wpS_forRange (fun x c st' => st' = st ∧ c = (none, x) ∧ Up (fs κ d lo (arrOf st)) x) (fun x c st' hx hm hI => ?_) (fun c st' hI => ?_) ⟨rfl, rfl, up⟩
  · obtain ⟨e1, e2, u⟩ := hI
    subst e1 e2
    refine hf x x (O.blt (fs κ d lo (arrOf st') x) (fs κ d lo (arrOf st') (x - 1))) _ (fun T hT => ?_) ?_
    · rw [show lo + x - 1 = lo + (x - 1) by omega]
      exact S.lt (d := d) hb (show x < n by omega) (show x - 1 < n by omega) hT
    · cases e : O.blt (fs κ d lo (arrOf st') x) (fs κ d lo (arrOf st') (x - 1)) with
      | true => exact q x hx (by omega) u (.inr e)
      | false => exact ⟨rfl, rfl, u.snoc e⟩
  · obtain ⟨e1, e2, u⟩ := hI
    subst e1 e2
    rw [Nat.max_eq_right ham] at u ⊢
    exact q m ham (Nat.le_refl m) u (.inl rfl)
/-- a falling run is walked -/
theorem run_desc (S : Mkr (model prog w) A E s κ ok kd lo n st0) {st : SortSt} (hb : Rl kd lo st0 st) {a m : Nat} (h1 : 1 ≤ a) (ham : a ≤ m) (hmn : m ≤ n) (dn : Dn (fs κ d lo (arrOf st)) a) {f : Nat → DescSt → StateT SortSt Sem (ForInStep DescSt)}
    (hf : ∀ x k e b1 b2 (st : SortSt) (R : ForInStep DescSt → SortSt → Prop), (∀ T : Option Bool → SortSt → Prop, T (some b1) st → wpS (model prog w) A E s (ltAt' (lo + k) (lo + k - 1)) T st) → (∀ T : Option Bool → SortSt → Prop, T (some b2) st → wpS (model prog w) A E s (ltAt' (lo + k - 1) (lo + k)) T st) →
      (b1 = true → e > 0 → R (.yield (none, k + 1, 0)) (setArr st (mirror (arrOf st) (lo + k - (e + 1)) (lo + k) ((lo + k - (lo + k - (e + 1))) / 2)))) → (b1 = true → ¬ e > 0 → R (.yield (none, k + 1, 0)) st) → (b1 = false → b2 = true → R (.done (none, k, e)) st) → (b1 = false → b2 = false → R (.yield (none, k + 1, e + 1)) st) → wpS (model prog w) A E s (f x (none, k, e)) R st) {Q : DescSt → SortSt → Prop}
    (q : ∀ k e st', Rl kd lo st0 st' → a ≤ k → k ≤ m → Dn (fs κ d lo (arrOf st')) k → e + 1 ≤ k → (∀ i, k - (e + 1) ≤ i → i < k → fs κ d lo (arrOf st') i = fs κ d lo (arrOf st') (k - 1)) → Q (none, k, e) st') : wpS (model prog w) A E s (forIn [a:m] ((none, a, 0) : DescSt) f) Q st := by
  have one : ∀ (xs : Array Keyed) (x : Nat), 1 ≤ x → ∀ i, x - (0 + 1) ≤ i → i < x → fs κ d lo xs i = fs κ d lo xs (x - 1) := fun xs x hx i c1 c2 => by rw [show i = x - 1 by omega]
  refine wpS_forRange (fun x c st' => ∃ e, c = (none, x, e) ∧ Rl kd lo st0 st' ∧ Dn (fs κ d lo (arrOf st')) x ∧ e + 1 ≤ x ∧ ∀ i, x - (e + 1) ≤ i → i < x → fs κ d lo (arrOf st') i = fs κ d lo (arrOf st') (x - 1)) (fun x c st' hx hm hI => ?_) (fun c st' hI => ?_) ⟨0, rfl, hb, dn, h1, one _ a h1⟩
  · obtain ⟨e, rfl, b, u, le, fl⟩ := hI
    have z : lo + x ≤ (arrOf st').size := by have := S.size b; omega
    refine hf x x e (O.blt (fs κ d lo (arrOf st') x) (fs κ d lo (arrOf st') (x - 1))) (O.blt (fs κ d lo (arrOf st') (x - 1)) (fs κ d lo (arrOf st') x)) st' _ (fun T hT => ?_) (fun T hT => ?_) (fun e1 c => ?_) (fun e1 c => ?_) (fun e1 e2 => ?_) (fun e1 e2 => ?_)
    · rw [show lo + x - 1 = lo + (x - 1) by omega]
      exact S.lt (d := d) b (show x < n by omega) (show x - 1 < n by omega) hT
    · rw [show lo + x - 1 = lo + (x - 1) by omega]
      exact S.lt (d := d) b (show x - 1 < n by omega) (show x < n by omega) hT
    · rw [show lo + x - (e + 1) = lo + (x - (e + 1)) by omega]
      exact ⟨0, rfl, b.turn z, (u.snoc (KeyOrd.kle_of_klt e1)).congr (fs_flat κ d lo z fl), by omega, one _ (x + 1) (by omega)⟩
    · exact ⟨0, rfl, b, u.snoc (KeyOrd.kle_of_klt e1), by omega, one _ (x + 1) (by omega)⟩
    · exact q x e st' b hx (by omega) u le fl
    · have same : fs κ d lo (arrOf st') x = fs κ d lo (arrOf st') (x - 1) := KeyOrd.kle_antisymm e2 e1
      refine ⟨e + 1, rfl, b, u.snoc (by rw [same]; exact KeyOrd.kle_refl _), by omega, fun i c1 c2 => ?_⟩
      rw [Nat.add_sub_cancel]
      rcases Nat.lt_or_ge i x with c3 | c3
      · rw [same]; exact fl i (by omega) c3
      · rw [show i = x by omega]
  · obtain ⟨e, rfl, b, u, le, fl⟩ := hI
    rw [Nat.max_eq_right ham] at u le fl ⊢
    exact q m e st' b ham (Nat.le_refl m) u le fl
theorem turn_up {st : SortSt} {a : Nat} (z : lo + a ≤ (arrOf st).size) (dn : Dn (fs κ d lo (arrOf st)) a) : Up (fs κ d lo (mirror (arrOf st) lo (lo + a) ((lo + a - lo) / 2))) a := fun i j c1 c2 => by
  have t := fs_turn κ d lo (i := 0) z
  rw [Nat.add_zero] at t
  rw [t, t, if_pos ⟨Nat.zero_le _, by omega⟩, if_pos ⟨Nat.zero_le _, c2⟩]
  exact dn _ _ (by omega) (by omega)
theorem run_count (S : Mkr (model prog w) A E s κ ok kd lo n st0) {st : SortSt} (hb : Rl kd lo st0 st) {m : Nat} (h1 : 1 ≤ m) (hmn : m ≤ n) {Q : Option Nat → SortSt → Prop}
    (q : ∀ k st', Rl kd lo st0 st' → 1 ≤ k → k ≤ m → Up (fs κ d lo (arrOf st')) k → Q (some k) st') : wpS (model prog w) A E s (countRun' lo m) Q st := by
  rw [countRun'_eq]
  refine wpS_bind (run_asc d S hb (Nat.le_refl 1) h1 hmn (Up.one _) (fun x k b R hl hr => by refine wpS_bind (hl _ ?_); dsimp only; cases b <;> exact wpS_pure hr) fun k0 k01 k02 u0 ends => ?_)
  have z : lo + k0 ≤ (arrOf st).size := by have := S.size hb; omega
  dsimp only
  by_cases c : k0 = m
  · rw [if_pos (beq_iff_eq.mpr c)]
    exact wpS_pure (q k0 st hb k01 k02 u0)
  rw [if_neg (fun z => c (beq_iff_eq.mp z))]
  have fall := ends.resolve_left c
  by_cases c1 : k0 > 1
  · rw [if_pos c1, show lo + k0 - 1 = lo + (k0 - 1) by omega]
    refine wpS_bind (S.lt (d := d) (i := 0) hb (show 0 < n by omega) (show k0 - 1 < n by omega) ?_)
    dsimp only
    cases e : O.blt (fs κ d lo (arrOf st) 0) (fs κ d lo (arrOf st) (k0 - 1)) with
    | true => rw [if_pos rfl]; exact wpS_pure (q k0 st hb k01 k02 u0)
    | false =>
      rw [if_neg Bool.false_ne_true]
      have flat : ∀ i, 0 ≤ i → i < k0 → fs κ d lo (arrOf st) i = fs κ d lo (arrOf st) (k0 - 1) := fun i _ ci =>
        KeyOrd.kle_antisymm (u0 i (k0 - 1) (by omega) (by omega)) (KeyOrd.kle_trans e (u0 0 i (Nat.zero_le _) ci))
      have dn : Dn (fs κ d lo (arrOf st)) (k0 + 1) := by
        refine Dn.snoc (fun i j a b => ?_) (KeyOrd.kle_of_klt fall)
        rw [flat i (Nat.zero_le _) (by omega), flat j (Nat.zero_le _) b]
        exact KeyOrd.kle_refl _
      refine wpS_bind (wpS_reverse ?_)
      refine wpS_bind (wpS_lift (wpAny_rule ⟨rfl, ?_⟩))
      refine wpS_bind (run_desc d S (hb.turn (i := 0) z) (a := k0 + 1) (by omega) (by omega) hmn (dn.congr (fs_flat κ d lo (i := 0) z flat)) (fun x k e b1 b2 st R l1 l2 r1 r2 r3 r4 => by
          refine wpS_bind (l1 _ ?_)
          dsimp only
          cases b1 with
          | true =>
            rw [if_pos rfl]
            by_cases c : e > 0
            · rw [if_pos c]
              exact wpS_bind (wpS_reverse (wpS_pure (r1 rfl c)))
            · rw [if_neg c]
              exact wpS_pure (r2 rfl c)
          | false =>
            rw [if_neg Bool.false_ne_true]
            refine wpS_bind (l2 _ ?_)
            dsimp only
            cases b2 with
            | true => exact wpS_pure (r3 rfl rfl)
            | false => exact wpS_pure (r4 rfl rfl)) fun k e st' b k1 k2 u le fl => ?_)
      have z : lo + k ≤ (arrOf st').size := by have := S.size b; omega
      dsimp only
      by_cases c : e > 0
      · rw [if_pos c, show lo + k - (e + 1) = lo + (k - (e + 1)) by omega]
        refine wpS_bind (wpS_reverse ?_)
        have b' := b.turn (i := k - (e + 1)) z
        have u' : Dn (fs κ d lo (mirror (arrOf st') (lo + (k - (e + 1))) (lo + k) ((lo + k - (lo + (k - (e + 1)))) / 2))) k := u.congr (fs_flat κ d lo z fl)
        have z : lo + k ≤ (arrOf (setArr st' (mirror (arrOf st') (lo + (k - (e + 1))) (lo + k) ((lo + k - (lo + (k - (e + 1)))) / 2)))).size := by have := S.size b'; omega
        refine wpS_bind (wpS_reverse ?_)
        have hb9 := Rl.turn (i := 0) (b') z
        refine wpS_bind (run_asc d S hb9 (by omega) k2 hmn (turn_up d z (u')) (fun x k b R hl hr => by refine wpS_bind (hl _ ?_); dsimp only; cases b <;> exact wpS_pure hr) fun k9 k91 k92 u9 _ => ?_)
        exact wpS_pure (q k9 _ hb9 (by omega) k92 u9)
      · rw [if_neg c]
        refine wpS_bind (wpS_reverse ?_)
        have hb9 := Rl.turn (i := 0) (b) z
        refine wpS_bind (run_asc d S hb9 (by omega) k2 hmn (turn_up d z (u)) (fun x k b R hl hr => by refine wpS_bind (hl _ ?_); dsimp only; cases b <;> exact wpS_pure hr) fun k9 k91 k92 u9 _ => ?_)
        exact wpS_pure (q k9 _ hb9 (by omega) k92 u9)
  · rw [if_neg c1]
    have e1 : k0 = 1 := by omega
    subst e1
    refine wpS_bind (wpS_lift (wpAny_rule ⟨rfl, ?_⟩))
    refine wpS_bind (run_desc d S (hb) (a := 1 + 1) (by omega) (by omega) hmn (Dn.snoc (Dn.one _) (KeyOrd.kle_of_klt fall)) (fun x k e b1 b2 st R l1 l2 r1 r2 r3 r4 => by
        refine wpS_bind (l1 _ ?_)
        dsimp only
        cases b1 with
        | true =>
          rw [if_pos rfl]
          by_cases c : e > 0
          · rw [if_pos c]
            exact wpS_bind (wpS_reverse (wpS_pure (r1 rfl c)))
          · rw [if_neg c]
            exact wpS_pure (r2 rfl c)
        | false =>
          rw [if_neg Bool.false_ne_true]
          refine wpS_bind (l2 _ ?_)
          dsimp only
          cases b2 with
          | true => exact wpS_pure (r3 rfl rfl)
          | false => exact wpS_pure (r4 rfl rfl)) fun k e st' b k1 k2 u le fl => ?_)
    have z : lo + k ≤ (arrOf st').size := by have := S.size b; omega
    dsimp only
    by_cases c : e > 0
    · rw [if_pos c, show lo + k - (e + 1) = lo + (k - (e + 1)) by omega]
      refine wpS_bind (wpS_reverse ?_)
      have b' := b.turn (i := k - (e + 1)) z
      have u' : Dn (fs κ d lo (mirror (arrOf st') (lo + (k - (e + 1))) (lo + k) ((lo + k - (lo + (k - (e + 1)))) / 2))) k := u.congr (fs_flat κ d lo z fl)
      have z : lo + k ≤ (arrOf (setArr st' (mirror (arrOf st') (lo + (k - (e + 1))) (lo + k) ((lo + k - (lo + (k - (e + 1)))) / 2)))).size := by have := S.size b'; omega
      refine wpS_bind (wpS_reverse ?_)
      have hb9 := Rl.turn (i := 0) (b') z
      refine wpS_bind (run_asc d S hb9 (by omega) k2 hmn (turn_up d z (u')) (fun x k b R hl hr => by refine wpS_bind (hl _ ?_); dsimp only; cases b <;> exact wpS_pure hr) fun k9 k91 k92 u9 _ => ?_)
      exact wpS_pure (q k9 _ hb9 (by omega) k92 u9)
    · rw [if_neg c]
      refine wpS_bind (wpS_reverse ?_)
      have hb9 := Rl.turn (i := 0) (b) z
      refine wpS_bind (run_asc d S hb9 (by omega) k2 hmn (turn_up d z (u)) (fun x k b R hl hr => by refine wpS_bind (hl _ ?_); dsimp only; cases b <;> exact wpS_pure hr) fun k9 k91 k92 u9 _ => ?_)
      exact wpS_pure (q k9 _ hb9 (by omega) k92 u9)
theorem run_binary (S : Mkr (model prog w) A E s κ ok kd lo n st0) {st : SortSt} (hb : Rl kd lo st0 st) {a m : Nat} (ham : a ≤ m) (hmn : m ≤ n) (up : Up (fs κ d lo (arrOf st)) a) {Q : Bool → SortSt → Prop}
    (q : ∀ st', Rl kd lo st0 st' → Up (fs κ d lo (arrOf st')) m → Q true st') : wpS (model prog w) A E s (binarySort' lo m a) Q st := by
  rw [binarySort'_eq]
  refine wpS_bind (wpS_mono (wpS_forRange (fun x c st' => c = (none, ()) ∧ Rl kd lo st0 st' ∧ Up (fs κ d lo (arrOf st')) (min x m)) (Q := fun c st' => c = (none, ()) ∧ Rl kd lo st0 st' ∧ Up (fs κ d lo (arrOf st')) m) (fun x c st' hx hxn hI => ?_) (fun c st' hI => ?_) ⟨rfl, hb, ?_⟩) ?_)
  · obtain ⟨rfl, b, u⟩ := hI
    rw [Nat.min_eq_left (by omega)] at u
    refine wpS_bind (wpS_mono (wpS_forRange (fun y c st2 => st2 = st' ∧ ∃ l r, c = (none, l, r) ∧ l ≤ r ∧ r ≤ x ∧ r - l ≤ x - y ∧ (∀ i, i < l → O.kle (fs κ d lo (arrOf st') i) (fs κ d lo (arrOf st') x)) ∧ ∀ i, r ≤ i → i < x → O.klt (fs κ d lo (arrOf st') x) (fs κ d lo (arrOf st') i))
      (Q := fun c st2 => st2 = st' ∧ ∃ l r, c = (none, l, r) ∧ l ≤ x ∧ (∀ i, i < l → O.kle (fs κ d lo (arrOf st') i) (fs κ d lo (arrOf st') x)) ∧ ∀ i, l ≤ i → i < x → O.klt (fs κ d lo (arrOf st') x) (fs κ d lo (arrOf st') i))
      (fun y c st2 _ hy hJ => ?_) (fun c st2 hJ => ?_) ⟨rfl, 0, x, rfl, Nat.zero_le _, Nat.le_refl _, Nat.le_refl _, (fun i hi => absurd hi (Nat.not_lt_zero i)), fun i c1 c2 => absurd c2 (Nat.not_lt.mpr c1)⟩) ?_)
    · obtain ⟨rfl, l, r, rfl, lr, rx, dist, lo', hi⟩ := hJ
      dsimp only
      by_cases c : l ≥ r
      · rw [if_pos c]
        exact wpS_pure ⟨rfl, l, r, rfl, by omega, lo', fun i c1 c2 => hi i (by omega) c2⟩
      rw [if_neg c]
      refine wpS_bind (S.lt (d := d) b (show x < n by omega) (show (l + r) / 2 < n by omega) ?_)
      dsimp only
      cases e : O.blt (fs κ d lo (arrOf st2) x) (fs κ d lo (arrOf st2) ((l + r) / 2)) with
      | true =>
        rw [if_pos rfl]
        exact wpS_pure ⟨rfl, l, (l + r) / 2, rfl, by omega, by omega, by omega, lo', fun i c1 c2 => KeyOrd.klt_of_klt_of_kle e (u _ _ c1 c2)⟩
      | false =>
        rw [if_neg Bool.false_ne_true]
        exact wpS_pure ⟨rfl, (l + r) / 2 + 1, r, rfl, by omega, rx, by omega, fun i ci => KeyOrd.kle_trans (u i ((l + r) / 2) (by omega) (by omega)) e, hi⟩
    · obtain ⟨rfl, l, r, rfl, lr, rx, dist, lo', hi⟩ := hJ
      exact ⟨rfl, l, r, rfl, by omega, lo', fun i c1 c2 => hi i (by omega) c2⟩
    · rintro c st2 ⟨rfl, l, r, rfl, lx, lo', hi⟩
      have z : lo + x < (arrOf st2).size := by have := S.size b; omega
      show wpS _ _ _ _ (moveDown' (lo + x) (lo + l) >>= fun _ => pure (ForInStep.yield (none, ()))) _ _
      rw [moveDown'_eq]
      refine wpS_bind (wpS_modify (wpS_pure ⟨rfl, b.put (bubble_perm _ _ _) (fun k hk => down_out lo z lx hk), ?_⟩))
      rw [Nat.min_eq_left (by omega)]
      intro i j c1 c2
      show O.kle (fs κ d lo (bubble (arrOf st2) (lo + x) (lo + x - (lo + l))) i) (fs κ d lo (bubble (arrOf st2) (lo + x) (lo + x - (lo + l))) j)
      rw [fs_down κ d lo z lx, fs_down κ d lo z lx]
      by_cases a1 : i = l
      · rw [if_pos a1]
        by_cases a2 : j = l
        · rw [if_pos a2]; exact KeyOrd.kle_refl _
        · rw [if_neg a2, if_pos ⟨by omega, by omega⟩]; exact KeyOrd.kle_of_klt (hi _ (by omega) (by omega))
      · rw [if_neg a1]
        by_cases a3 : l < i ∧ i ≤ x
        · rw [if_pos a3, if_neg (by omega), if_pos ⟨by omega, by omega⟩]
          exact u _ _ (by omega) (by omega)
        · rw [if_neg a3]
          by_cases a2 : j = l
          · rw [if_pos a2]; exact lo' i (by omega)
          · rw [if_neg a2]
            by_cases a4 : l < j ∧ j ≤ x
            · rw [if_pos a4]; exact u _ _ (by omega) (by omega)
            · rw [if_neg a4]; exact u _ _ c1 (by omega)
  · obtain ⟨rfl, b, u⟩ := hI
    rcases Nat.lt_or_ge m (max a 1) with c | c
    · have : m = 0 := by omega
      subst this
      exact ⟨rfl, b, fun i j _ h => absurd h (Nat.not_lt_zero j)⟩
    · rw [show min (max (max a 1) m) m = m by omega] at u
      exact ⟨rfl, b, u⟩
  · intro i j c1 c2
    rcases Nat.lt_or_ge j a with c | c
    · exact up i j c1 c
    · have e : i = j := by omega
      rw [e]; exact KeyOrd.kle_refl _
  · rintro c st' ⟨rfl, b, u⟩
    exact wpS_pure (q st' b u)
end
end L2

set_option Elab.async false
set_option linter.all false
set_option maxRecDepth 100000
set_option maxHeartbeats 1000000
namespace L2
open PySem PySem.Spec PyProof.Rows
section
variable {O : KeyOrd} {κ : Keyed → O.α}
/-- the runs that wait, side by side -/
def Runs (κ : Keyed → O.α) (arr : Array Keyed) : List (Nat × Nat × Nat) → Nat → Nat → Prop
  | [], b, e => b = e
  | (s, n, _) :: r, b, e => s = b ∧ 1 ≤ n ∧ SegU κ arr b (b + n) ∧ Runs κ arr r (b + n) e
theorem Runs.le {arr : Array Keyed} : ∀ {l : List (Nat × Nat × Nat)} {b e : Nat}, Runs κ arr l b e → b + l.length ≤ e
  | [], b, e, h => by have : b = e := h; simp; omega
  | (s, n, p) :: r, b, e, h => by
    obtain ⟨_, h1, _, h2⟩ := h
    have := Runs.le h2
    rw [List.length_cons]; omega
theorem Runs.same {arr arr' : Array Keyed} : ∀ {l : List (Nat × Nat × Nat)} {b e : Nat}, Runs κ arr l b e → (∀ k, b ≤ k → k < e → arr'[k]? = arr[k]?) → Runs κ arr' l b e
  | [], b, e, h, _ => h
  | (s, n, p) :: r, b, e, h, hk => by
    obtain ⟨h0, h1, h3, h2⟩ := h
    have := h2.le
    exact ⟨h0, h1, h3.same fun k a c => hk k a (by omega), Runs.same h2 fun k a c => hk k (by omega) c⟩
theorem Runs.snoc {arr : Array Keyed} {n p : Nat} : ∀ {l : List (Nat × Nat × Nat)} {b e : Nat}, Runs κ arr l b e → 1 ≤ n → SegU κ arr e (e + n) → Runs κ arr (l ++ [(e, n, p)]) b (e + n)
  | [], b, e, h, h1, h2 => by
    have : b = e := h
    subst this
    exact ⟨rfl, h1, h2, rfl⟩
  | (s, m, p) :: r, b, e, h, h1, h2 => ⟨h.1, h.2.1, h.2.2.1, Runs.snoc h.2.2.2 h1 h2⟩
theorem Runs.modify {arr : Array Keyed} {f : Nat × Nat × Nat → Nat × Nat × Nat} (hf : ∀ a b c, ∃ c', f (a, b, c) = (a, b, c')) : ∀ {l : List (Nat × Nat × Nat)} {b e : Nat} (i : Nat), Runs κ arr l b e → Runs κ arr (l.modify i f) b e
  | [], b, e, i, h => by rw [List.modify_nil]; exact h
  | (s, n, p) :: r, b, e, 0, h => by
    obtain ⟨c', e'⟩ := hf s n p
    show Runs κ arr (f (s, n, p) :: r) b e
    rw [e']; exact h
  | (s, n, p) :: r, b, e, i + 1, h => by
    show Runs κ arr ((s, n, p) :: r.modify i f) b e
    exact ⟨h.1, h.2.1, h.2.2.1, Runs.modify hf i h.2.2.2⟩
theorem Runs.merge {arr : Array Keyed} {sa na pw sb nb pw2 : Nat} : ∀ {l : List (Nat × Nat × Nat)} {b e : Nat} (i : Nat), Runs κ arr l b e → l[i]? = some (sa, na, pw) → l[i + 1]? = some (sb, nb, pw2) →
    sb = sa + na ∧ 1 ≤ na ∧ 1 ≤ nb ∧ b ≤ sa ∧ sa + na + nb ≤ e ∧ SegU κ arr sa (sa + na) ∧ SegU κ arr (sa + na) (sa + na + nb) ∧
    ∀ arr' : Array Keyed, (∀ k, (k < sa ∨ sa + na + nb ≤ k) → arr'[k]? = arr[k]?) → SegU κ arr' sa (sa + na + nb) → Runs κ arr' ((l.set i (sa, na + nb, pw)).eraseIdx (i + 1)) b e
  | [], b, e, i, h, e1, _ => by simp at e1
  | [x], b, e, 0, h, e1, e2 => by simp at e2
  | (s, n, p) :: (s2, n2, p2) :: r, b, e, 0, h, e1, e2 => by
    obtain ⟨rfl, h1, h2, rfl, h3, h4, h5⟩ := h
    simp at e1 e2
    obtain ⟨rfl, rfl, rfl⟩ := e1
    obtain ⟨rfl, rfl, rfl⟩ := e2
    have := h5.le
    refine ⟨rfl, h1, h3, Nat.le_refl _, by omega, h2, h4, fun arr' ho hs => ?_⟩
    refine ⟨rfl, by omega, by rw [← Nat.add_assoc]; exact hs, ?_⟩
    rw [← Nat.add_assoc]
    exact h5.same fun k a _ => ho k (.inr a)
  | (s, n, p) :: r, b, e, i + 1, h, e1, e2 => by
    obtain ⟨rfl, h1, h2, h3⟩ := h
    obtain ⟨q1, q2, q3, q4, q5, q6, q7, q8⟩ := Runs.merge i h3 (by simpa using e1) (by simpa using e2)
    refine ⟨q1, q2, q3, by omega, q5, q6, q7, fun arr' ho hs => ?_⟩
    exact ⟨rfl, h1, h2.same fun k a c => ho k (.inl (by omega)), q8 arr' ho hs⟩
theorem pend_list (p : Array (Nat × Nat × Nat)) (i : Nat) (x : Nat × Nat × Nat) (h : i + 1 < p.size) : ((p.setIfInBounds i x).eraseIdxIfInBounds (i + 1)).toList = (p.toList.set i x).eraseIdx (i + 1) := by
  unfold Array.eraseIdxIfInBounds
  rw [dif_pos (by rw [Array.size_setIfInBounds]; exact h), Array.toList_eraseIdx, Array.toList_setIfInBounds]
end
section
variable {prog : Program} {w : World} {A : Around} {E : Value → Shared → Prop} {s : Shared} {O : KeyOrd} {κ : Keyed → O.α} {ok : Keyed → Prop} {kd : SortKind} {a0 : Array Keyed}
structure Pnd (κ : Keyed → O.α) (kd : SortKind) (a0 : Array Keyed) (lo : Nat) (st : SortSt) : Prop where
  sx : Sx kd st
  perm : (arrOf st).Perm a0
  runs : Runs κ (arrOf st) (pendingOf st).toList 0 lo
  le : lo ≤ a0.size
theorem Pnd.size {lo : Nat} {st : SortSt} (h : Pnd κ kd a0 lo st) : (arrOf st).size = a0.size := h.perm.size_eq
theorem Pnd.oks {lo : Nat} {st : SortSt} (h : Pnd κ kd a0 lo st) (h0 : ∀ x ∈ a0, ok x) : ∀ x ∈ arrOf st, ok x := fun x hx => h0 x (h.perm.mem_iff.mp hx)
theorem go_merge (C : Cm (model prog w) A E s κ ok kd) (h0 : ∀ x ∈ a0, ok x) {st : SortSt} {lo i : Nat} (h : Pnd κ kd a0 lo st) (hi : i + 1 < (pendingOf st).size) {Q : Bool → SortSt → Prop} (q : ∀ st', Pnd κ kd a0 lo st' → (pendingOf st').size + 1 = (pendingOf st).size → (∀ k, lo ≤ k → (arrOf st')[k]? = (arrOf st)[k]?) → Q true st') : wpS (model prog w) A E s (mergeAt' i) Q st := by
  obtain ⟨sa, na, pw, e1⟩ : ∃ a b c, (pendingOf st)[i]? = some (a, b, c) := ⟨_, _, _, Array.getElem?_eq_getElem (by omega)⟩
  obtain ⟨sb, nb, pw2, e2⟩ : ∃ a b c, (pendingOf st)[i + 1]? = some (a, b, c) := ⟨_, _, _, Array.getElem?_eq_getElem hi⟩
  obtain ⟨rfl, q2, q3, q4, q5, q6, q7, q8⟩ := h.runs.merge i (by rw [Array.getElem?_toList]; exact e1) (by rw [Array.getElem?_toList]; exact e2)
  refine go_mergeAt C h.sx (h.oks h0) e1 e2 q2 q3 (by have := h.size; have := h.le; omega) q6 q7 fun st' m => q st' ⟨m.sx, (Array.perm_iff_toList_perm.mpr m.perm).trans h.perm, ?_, h.le⟩ ?_ (fun k hk => m.out k (.inr (by omega)))
  · rw [m.pend, pend_list _ _ _ hi]
    exact q8 _ m.out m.seg
  · rw [m.pend]
    have l := congrArg List.length (pend_list (pendingOf st) i (sa, na + nb, pw) hi)
    rw [Array.length_toList, List.length_eraseIdx, List.length_set, Array.length_toList, if_pos hi] at l
    omega
theorem Pnd.push {lo n : Nat} {st : SortSt} (h : Pnd κ kd a0 lo st) (h1 : 1 ≤ n) (sg : SegU κ (arrOf st) lo (lo + n)) (hz : lo + n ≤ a0.size) : Pnd κ kd a0 (lo + n) (setPending st ((pendingOf st).push (lo, n, 0))) :=
  ⟨h.sx, h.perm, by show Runs κ (arrOf st) ((pendingOf st).push (lo, n, 0)).toList 0 (lo + n); rw [Array.toList_push]; exact h.runs.snoc h1 sg, hz⟩
theorem Pnd.mod {lo : Nat} {st : SortSt} (h : Pnd κ kd a0 lo st) {f : Nat × Nat × Nat → Nat × Nat × Nat} (i : Nat) (hf : ∀ a b c, ∃ c', f (a, b, c) = (a, b, c')) : Pnd κ kd a0 lo (setPending st ((pendingOf st).modify i f)) :=
  ⟨h.sx, h.perm, by show Runs κ (arrOf st) ((pendingOf st).modify i f).toList 0 lo; rw [Array.toList_modify]; exact h.runs.modify hf i, h.le⟩
theorem Pnd.rl {lo : Nat} {st st' : SortSt} (h : Pnd κ kd a0 lo st) (r : Rl kd lo st st') : Pnd κ kd a0 lo st' :=
  ⟨r.sx, r.perm.trans h.perm, by rw [r.pend]; exact h.runs.same fun k _ c => r.out k c, h.le⟩
theorem go_sortRuns (d : O.α) (C : Cm (model prog w) A E s κ ok kd) (h0 : ∀ x ∈ a0, ok x) {st : SortSt} (h : Pnd κ kd a0 0 st) {Q : Unit → SortSt → Prop}
    (q : ∀ st', Sx kd st' → (arrOf st').Perm a0 → SegU κ (arrOf st') 0 a0.size → Q () st') : wpS (model prog w) A E s sortRuns' Q st := by
  rw [sortRuns'_eq]
  refine wpS_bind (wpS_get ?_)
  dsimp only
  have hsz : (arrOf st).size = a0.size := h.size
  rw [hsz]
  generalize minRun' a0.size a0.size 0 = mr
  refine wpS_bind (wpS_mono (wpS_forRange (fun x c st' => ∃ lo, c = (none, lo) ∧ Pnd κ kd a0 lo st' ∧ (x ≤ lo ∨ a0.size ≤ lo)) (Q := fun c st' => c = (none, a0.size) ∧ Pnd κ kd a0 a0.size st') ?step ?fin ⟨0, rfl, h, .inl (Nat.le_refl _)⟩) ?post)
  case fin =>
    rintro c st' ⟨lo, rfl, P, hp⟩
    have e : lo = a0.size := by have := P.le; omega
    subst e
    exact ⟨rfl, P⟩
  case step =>
    rintro x c st' _ hx ⟨lo, rfl, P, hp⟩
    dsimp only
    by_cases c1 : lo ≥ a0.size
    · rw [if_pos c1]
      have e : lo = a0.size := by have := P.le; omega
      subst e
      exact wpS_pure ⟨rfl, P⟩
    rw [if_neg c1]
    have S : Mkr (model prog w) A E s κ ok kd lo (a0.size - lo) st' := ⟨C, P.oks h0, by rw [P.size]; omega⟩
    refine wpS_bind (run_count d S (Rl.refl P.sx) (by omega) (Nat.le_refl _) fun k st1 R1 k1 k2 u1 => ?_)
    dsimp only
    by_cases c2 : k < mr
    · rw [if_pos c2]
      refine wpS_bind (wpS_lift (wpAny_rule ⟨rfl, ?_⟩))
      refine wpS_bind (run_binary d S R1 (m := min (a0.size - lo) mr) (by omega) (by omega) u1 fun st2 R2 u2 => ?_)
      rw [if_neg (by simp)]
      have P2 := P.rl R2
      have sg := up_seg u2
      refine wpS_bind (wpS_get ?_)
      cases eb : (pendingOf st2).back? with
      | none =>
        dsimp only
        exact wpS_bind (wpS_modify (wpS_pure ⟨_, rfl, P2.push (by omega) sg (by omega), by omega⟩))
      | some r =>
        obtain ⟨s1, n1, p1⟩ := r
        dsimp only
        refine wpS_bind (wpS_mono (wpS_forRange (fun _ c st' => c = (none, ()) ∧ Pnd κ kd a0 lo st' ∧ SegU κ (arrOf st') lo (lo + min (a0.size - lo) mr)) (Q := fun c st' => c = (none, ()) ∧ Pnd κ kd a0 lo st' ∧ SegU κ (arrOf st') lo (lo + min (a0.size - lo) mr)) (fun y c st' _ _ hI => ?_) (fun c st' hI => hI) ⟨rfl, P2, sg⟩) ?_)
        · obtain ⟨rfl, P3, sg3⟩ := hI
          refine wpS_bind (wpS_get ?_)
          by_cases c5 : (pendingOf st').size > 1
          · obtain ⟨u1, u2, u3, eu⟩ : ∃ a b c, (pendingOf st')[(pendingOf st').size - 2]? = some (a, b, c) := ⟨_, _, _, Array.getElem?_eq_getElem (by omega)⟩
            rw [if_pos c5, eu]
            dsimp only
            split
            · exact wpS_pure ⟨rfl, P3, sg3⟩
            · refine wpS_bind (go_merge C h0 P3 (by omega) fun st4 P4 _ o4 => ?_)
              rw [if_neg (by simp)]
              exact wpS_pure ⟨rfl, P4, sg3.same fun k a c => o4 k a⟩
          · rw [if_neg c5]
            exact wpS_pure ⟨rfl, P3, sg3⟩
        · rintro c st' ⟨rfl, P3, sg3⟩
          dsimp only
          refine wpS_bind (wpS_modify (wpS_bind (wpS_modify (wpS_pure ⟨_, rfl, (P3.mod (f := fun x => (x.fst, x.2.fst, _)) _ (fun a b c => ⟨_, rfl⟩)).push (by omega) sg3 (by omega), by omega⟩))))
    · rw [if_neg c2]
      have P2 := P.rl R1
      have sg := up_seg u1
      refine wpS_bind (wpS_get ?_)
      cases eb : (pendingOf st1).back? with
      | none =>
        dsimp only
        exact wpS_bind (wpS_modify (wpS_pure ⟨_, rfl, P2.push (by omega) sg (by omega), by omega⟩))
      | some r =>
        obtain ⟨s1, n1, p1⟩ := r
        dsimp only
        refine wpS_bind (wpS_mono (wpS_forRange (fun _ c st' => c = (none, ()) ∧ Pnd κ kd a0 lo st' ∧ SegU κ (arrOf st') lo (lo + k)) (Q := fun c st' => c = (none, ()) ∧ Pnd κ kd a0 lo st' ∧ SegU κ (arrOf st') lo (lo + k)) (fun y c st' _ _ hI => ?_) (fun c st' hI => hI) ⟨rfl, P2, sg⟩) ?_)
        · obtain ⟨rfl, P3, sg3⟩ := hI
          refine wpS_bind (wpS_get ?_)
          by_cases c5 : (pendingOf st').size > 1
          · obtain ⟨u1, u2, u3, eu⟩ : ∃ a b c, (pendingOf st')[(pendingOf st').size - 2]? = some (a, b, c) := ⟨_, _, _, Array.getElem?_eq_getElem (by omega)⟩
            rw [if_pos c5, eu]
            dsimp only
            split
            · exact wpS_pure ⟨rfl, P3, sg3⟩
            · refine wpS_bind (go_merge C h0 P3 (by omega) fun st4 P4 _ o4 => ?_)
              rw [if_neg (by simp)]
              exact wpS_pure ⟨rfl, P4, sg3.same fun k a c => o4 k a⟩
          · rw [if_neg c5]
            exact wpS_pure ⟨rfl, P3, sg3⟩
        · rintro c st' ⟨rfl, P3, sg3⟩
          dsimp only
          refine wpS_bind (wpS_modify (wpS_bind (wpS_modify (wpS_pure ⟨_, rfl, (P3.mod (f := fun x => (x.fst, x.2.fst, _)) _ (fun a b c => ⟨_, rfl⟩)).push (by omega) sg3 (by omega), by omega⟩))))
  case post =>
    rintro c st' ⟨rfl, P⟩
    dsimp only
    refine wpS_bind (wpS_mono (wpS_forRange (fun x c st'' => c = (none, ()) ∧ Pnd κ kd a0 a0.size st'' ∧ ((pendingOf st'').size ≤ 1 ∨ (pendingOf st'').size + x ≤ a0.size)) (Q := fun c st'' => c = (none, ()) ∧ Pnd κ kd a0 a0.size st'' ∧ (pendingOf st'').size ≤ 1) ?step2 ?fin2 ⟨rfl, P, .inr (by have := P.runs.le; rw [Array.length_toList] at this; omega)⟩) ?post2)
    case fin2 =>
      rintro c st'' ⟨rfl, P2, hz⟩
      exact ⟨rfl, P2, by omega⟩
    case step2 =>
      rintro x c st'' _ hx ⟨rfl, P2, hz⟩
      refine wpS_bind (wpS_get ?_)
      by_cases c1 : (pendingOf st'').size ≤ 1
      · rw [if_pos c1]
        exact wpS_pure ⟨rfl, P2, c1⟩
      rw [if_neg c1]
      refine wpS_bind (go_merge C h0 P2 (by split <;> first | omega | (split <;> omega)) fun st4 P4 z4 _ => ?_)
      rw [if_neg (by simp)]
      exact wpS_pure ⟨rfl, P4, by omega⟩
    case post2 =>
      rintro c st'' ⟨rfl, P2, hz⟩
      dsimp only
      refine wpS_pure (q st'' P2.sx P2.perm ?_)
      have r := P2.runs
      have l : (pendingOf st'').toList.length ≤ 1 := by rw [Array.length_toList]; exact hz
      generalize (pendingOf st'').toList = pl at r l
      match pl, r, l with
      | [], r, _ =>
        have e : 0 = a0.size := r
        rw [← e]
        exact fun i j x y _ _ c => absurd c (Nat.not_lt_zero j)
      | [(s1, n1, p1)], r, _ =>
        obtain ⟨_, _, r3, r4⟩ := r
        have e : 0 + n1 = a0.size := r4
        rw [← e]; exact r3
      | _ :: _ :: _, _, l => simp at l
end
end L2

set_option Elab.async false
set_option linter.all false
set_option maxRecDepth 100000
set_option maxHeartbeats 1000000
namespace L2
open PySem PySem.Spec PyProof.Rows
/-! ints of any number -/
def intO : KeyOrd where
  α := Int
  blt a b := decide (a < b)
  irrefl a := by simp
  trans a b c h1 h2 := by
    have := of_decide_eq_true h1
    have := of_decide_eq_true h2
    exact decide_eq_true (by omega)
  negTrans a b c h := by
    have := of_decide_eq_true h
    by_cases c1 : a < b
    · exact .inl (decide_eq_true c1)
    · exact .inr (decide_eq_true (by omega))
  total a b h1 h2 := by
    have := of_decide_eq_false h1
    have := of_decide_eq_false h2
    omega
def intK (p : Keyed) : intO.α := numOf p.1
def intOk (p : Keyed) : Prop := ∃ n t, p.1 = Value.int n t
section
variable {prog : Program} {w : World} {A : Around} {E : Value → Shared → Prop} {s : Shared}
theorem int_cm : Cm (model prog w) A E s intK intOk oneType' := ⟨fun {st x y Q} hk hf ⟨a, t, hx⟩ ⟨b, u, hy⟩ q => by
  obtain ⟨x1, x2⟩ := x
  obtain ⟨y1, y2⟩ := y
  simp only at hx hy
  subst hx hy
  rw [lt'_eq]
  refine wpS_bind (wpS_get ?_)
  rw [hk, keyLt'_oneType]
  refine wpS_bind (wpS_lift (wpAny_attempt (oneLt_int ⟨rfl, ?_⟩)))
  exact wpS_pure q⟩
theorem seg_sorted {xs : Array Keyed} {n : Nat} (hn : n = xs.size) (h : SegU intK xs 0 n) : SortedTo xs n := fun i j hij hj => by
  subst hn
  have e1 : xs[i]? = some xs[i] := Array.getElem?_eq_getElem (by omega)
  have e2 : xs[j]? = some xs[j] := Array.getElem?_eq_getElem hj
  have := h i j _ _ (Nat.zero_le _) hij hj e1 e2
  have h2 : ¬ (numOf xs[j].1 < numOf xs[i].1) := of_decide_eq_false this
  unfold K
  rw [e1, e2]
  show numOf xs[i].1 ≤ numOf xs[j].1
  omega
/-- list.sort of ints, however many -/
theorem sort_ints {a : Addr} {vs : List Value} {ns : List Int} {n : Nat} {P : Fin → Shared → Prop} (ho : s.heap.get? a = some (seqObj "list" vs.toArray n)) (hI : IntsAre vs ns) (hz : vs.length ≤ 1000000)
    (h : ∀ (out : Array Value) (ns' : List Int), IntsAre out.toList ns' → ns'.Perm ns → ns'.Pairwise (· ≤ ·) → P (.done (.ret .none)) { s with heap := sortedHeap s.heap a vs out }) :
    wpAny (model prog w) A (Builtin.«list.sort» ⟨[.ref a], []⟩) P E s := by
  by_cases h64 : vs.length < 64
  · exact list_sort_tree ho hI h64 h
  have szl := sizeLine_eq
  have hsz : vs.toArray.size = vs.length := by simp
  rw [list_sort_plain]
  have ha : a < s.heap.objs.size := Heap.lt_size ho
  refine wpAny_bind (listItems_at ho rfl (wpAny_bind (listUpdate_at ho rfl ?_ (by rw [hsz]; omega))))
  have ho1 := get?_update_seq ho (fun _ => #[])
  generalize (if (#[] : Array Value).size == vs.toArray.size then n else n + 1) = e1 at ho1
  refine wpAny_bind (seqEpoch_at ho1 rfl (wpAny_bind (wpAny_newTuple (wpAny_bind (wpAny_newList (wpAny_holding ?_))) (by show vs.length ≤ sizeLine; omega))))
  have ho6 : (((s.heap.update a (Obj.mapSeq fun _ => #[])).push (seqObj "tuple" vs.toArray 0)).push (seqObj "list" #[] 0)).get? a = some (seqObj "list" #[] e1) := by
    have z : a < (s.heap.update a (Obj.mapSeq fun _ => #[])).objs.size := by rw [Heap.size_update]; exact ha
    rw [Heap.get?_push_of_some _ (Heap.get?_push_of_some _ ho1)]
  show wpAny (model prog w) A _ P E { s with heap := ((s.heap.update a (Obj.mapSeq fun _ => #[])).push (seqObj "tuple" vs.toArray 0)).push (seqObj "list" #[] 0) }
  dsimp only
  have h2 : ¬ vs.toArray.size < 2 := by rw [hsz]; omega
  rw [if_neg h2, if_neg h2]
  obtain ⟨v1, v2, rest, rfl⟩ : ∃ v1 v2 rest, vs = v1 :: v2 :: rest := by
    match vs, h64 with
    | [], h => simp at h
    | [_], h => simp at h
    | v1 :: v2 :: rest, _ => exact ⟨v1, v2, rest, rfl⟩
  rw [keyKind_ints hI]
  refine wpAny_bind (wpAny_pure ?_)
  refine wpAny_bind (wpAny_mono (go_sortRuns (0 : Int) int_cm (a0 := pairsOf (v1 :: v2 :: rest)) (st := SortSt.mk' oneType' ((v1 :: v2 :: rest).toArray.zip (v1 :: v2 :: rest).toArray) #[] 7 none)
    (Q := fun _ st' => Sx oneType' st' ∧ (arrOf st').Perm (pairsOf (v1 :: v2 :: rest)) ∧ SegU intK (arrOf st') 0 (pairsOf (v1 :: v2 :: rest)).size)
    (fun x hx => hI.intKeys x (by simpa using hx)) ⟨⟨rfl, rfl⟩, Array.Perm.refl _, rfl, Nat.zero_le _⟩ fun st' a1 a2 a3 => ⟨a1, a2, a3⟩) ?_ fun _ _ e => e)
  rintro ⟨⟨⟩, st'⟩ s' ⟨rfl, hx, hp, hs⟩
  dsimp only
  refine wpAny_bind (seqEpoch_at ho6 rfl (wpAny_bind (listUpdate_at ho6 rfl ?_ (Nat.zero_le _) (by rw [Array.size_map, hp.size_eq, pairsOf_size]; omega))))
  obtain ⟨ns', g1, g2, g3⟩ := sorted_out hI hp (seg_sorted hp.size_eq.symm hs)
  rw [hx.2]
  simp only [bne_self_eq_false, Bool.false_eq_true, if_false]
  exact wpAny_pure (h _ ns' g1 g2 g3)
end
end L2

set_option Elab.async false
set_option linter.all false
set_option maxRecDepth 100000
set_option maxHeartbeats 4000000
namespace L2
open PySem PySem.Spec PyProof.Rows
/-! sets of ints of any number: their tables when they grow -/
theorem size_go : ∀ (fuel size n : Nat), size ≤ SetTable.sizeAbove.go n fuel size
  | 0, size, n => by unfold SetTable.sizeAbove.go; exact Nat.le_refl _
  | fuel + 1, size, n => by
    unfold SetTable.sizeAbove.go
    split
    · have := size_go fuel (size * 2) n; omega
    · exact Nat.le_refl _
theorem size_above (n : Nat) : 8 ≤ SetTable.sizeAbove n := size_go 64 8 n
theorem rising_list {l : List Nat} (h : l.Pairwise (· < ·)) : Rising l.toArray := by
  intro i j hij hj
  have hj' : j < l.length := by simpa using hj
  have := List.pairwise_iff_getElem.mp h i j (by omega) hj' hij
  simp only [Array.getD_eq_getD_getElem?, List.getElem?_toArray]
  rw [List.getElem?_eq_getElem (show i < l.length by omega), List.getElem?_eq_getElem hj']
  exact this
theorem live_rise {α : Type} (f : Nat → Option α) : ∀ {l : List Nat}, l.Pairwise (· < ·) → ((l.filterMap fun j => (f j).map (j, ·)).map (·.1)).Pairwise (· < ·)
  | [], _ => List.Pairwise.nil
  | x :: r, h => by
    obtain ⟨h1, h2⟩ := List.pairwise_cons.mp h
    rw [List.filterMap_cons]
    cases f x with
    | none => exact live_rise f h2
    | some y =>
      dsimp only [Option.map]
      rw [List.map_cons]
      refine List.pairwise_cons.mpr ⟨fun z hz => ?_, live_rise f h2⟩
      obtain ⟨p, hp, rfl⟩ := List.mem_map.mp hz
      obtain ⟨j, hj, e⟩ := List.mem_filterMap.mp hp
      cases hf : f j with
      | none => rw [hf] at e; cases e
      | some u => rw [hf] at e; cases e; exact h1 j hj
theorem relaid_ok {t t' : SetTable} {hs : Array Int} {n : Nat} {ord : Array Nat} (e : t.relaid hs n = some (t', ord)) : TabOk t' ∧ t'.led = t.led := by
  unfold SetTable.relaid SetTable.laid at e
  have h8 := size_above n
  cases c : SetTable.layClean (SetTable.sizeAbove n - 1) hs with
  | none => rw [c] at e; cases e
  | some owner =>
    rw [c] at e
    cases e
    refine ⟨⟨rfl, rising_list (live_rise _ ?_), by show 7 ≤ SetTable.sizeAbove n - 1; omega⟩, rfl⟩
    exact List.pairwise_lt_range
theorem relayAll_ok {t : SetTable} {es : Array (Int × Value)} (h1 : 1 ≤ es.size) (n : Nat) : TabOk (relayAll t es n).2.1 ∧ (relayAll t es n).2.1.led = t.led := by
  unfold relayAll
  split
  · rename_i t' ord e
    dsimp only
    split
    · exact relaid_ok e
    · exact ⟨standIn_ok h1, rfl⟩
  · exact ⟨standIn_ok h1, rfl⟩
def SetG (prog : Program) (w : World) (h : Heap) (a : Addr) (ks : List Int) : Prop :=
  ∃ o es ep t, h.get? a = some o ∧ o.ExactSet ∧ o.data = .set es ep t ∧ ElemsOf (intKind prog w) es.toList ∧ (∃ ms : List Int, Vals (ms.map V.int) (es.toList.map (·.2)) ∧ ms.Perm ks) ∧ ks.Nodup ∧ es.size < scanBound ∧ t.fits es.size = true ∧ TabOk t ∧ t.led = !byT w
section
variable {prog : Program} {w : World} {A : Around} {E : Value → Shared → Prop} {s : Shared}
theorem vals_in : ∀ {ms : List Int} {vs : List Value} {k : Int}, Vals (ms.map V.int) vs → (k ∈ ms ↔ ∃ tk, Value.int k tk ∈ vs)
  | [], _, k, h => by cases h; simp
  | m :: r, _, k, h => by
    cases h with
    | @cons _ u _ us a b =>
      obtain ⟨t, rfl⟩ := a
      rw [List.mem_cons, vals_in b]
      constructor
      · rintro (rfl | ⟨tk, h⟩)
        · exact ⟨t, List.mem_cons_self ..⟩
        · exact ⟨tk, List.mem_cons_of_mem _ h⟩
      · rintro ⟨tk, h⟩
        rcases List.mem_cons.mp h with h | h
        · cases h; exact .inl rfl
        · exact .inr ⟨tk, h⟩
theorem vals_append {a b : List V} {u v : List Value} : Vals a u → Vals b v → Vals (a ++ b) (u ++ v)
  | .nil, h => h
  | .cons x r, h => .cons x (vals_append r h)
theorem vals_perm {us vs : List Value} (p : us.Perm vs) : ∀ {ms : List Int}, Vals (ms.map V.int) vs → ∃ ns : List Int, Vals (ns.map V.int) us ∧ ns.Perm ms := by
  induction p with
  | nil => intro ms h; exact ⟨ms, h, List.Perm.refl _⟩
  | cons x _ ih =>
    intro ms h
    match ms, h with
    | [], h => cases h
    | m :: r, .cons a b =>
      obtain ⟨ns, h1, h2⟩ := ih b
      exact ⟨m :: ns, .cons a h1, h2.cons m⟩
  | swap x y l =>
    intro ms h
    match ms, h with
    | [], h => cases h
    | [m], h => cases h with | cons a b => cases b
    | m :: m2 :: r, .cons a (.cons b c) => exact ⟨m2 :: m :: r, .cons b (.cons a c), List.Perm.swap m m2 r⟩
  | trans _ _ ih1 ih2 =>
    intro ms h
    obtain ⟨ns, h1, h2⟩ := ih2 h
    obtain ⟨ns', h3, h4⟩ := ih1 h1
    exact ⟨ns', h3, h4.trans h2⟩
theorem is_int {k : Int} {v : Value} : (intKind prog w).is k v = true ↔ ∃ tk, v = .int k tk := by
  constructor
  · intro h
    cases v with
    | int m t =>
      have := (intKind prog w).inj (.int m t) k m h (intKind_is _ _ _ _)
      exact ⟨t, by rw [this]⟩
    | _ => exact absurd h (by simp [intKind, Value.isInt])
  · rintro ⟨tk, rfl⟩; exact intKind_is _ _ _ _
end
end L2

set_option Elab.async false
set_option linter.all false
set_option maxRecDepth 100000
set_option maxHeartbeats 4000000
namespace L2
open PySem PySem.Spec PyProof.Rows
section
variable {prog : Program} {w : World} {A : Around} {E : Value → Shared → Prop} {s : Shared}
theorem SetG.keep {h h' : Heap} {a : Addr} {ks : List Int} (x : SetG prog w h a ks) (k : ∀ o, h.get? a = some o → h'.get? a = some o) : SetG prog w h' a ks := by
  obtain ⟨o, es, ep, t, ho, rest⟩ := x
  exact ⟨o, es, ep, t, k o ho, rest⟩
theorem SetG.len {h : Heap} {a : Addr} {ks : List Int} (x : SetG prog w h a ks) : ks.length < 4096 := by
  obtain ⟨o, es, ep, t, ho, hex, hd, hel, ⟨ms, hv, hp⟩, nd, hb, rest⟩ := x
  have l1 := hv.length
  simp only [List.length_map, Array.length_toList] at l1
  have l2 := hp.length_eq
  have : scanBound = 4096 := rfl
  omega
/-- the row of a set when an int is added -/
def addK (ks : List Int) (k : Int) : List Int := if k ∈ ks then ks else ks ++ [k]
theorem addK_nodup {ks : List Int} {k : Int} (h : ks.Nodup) : (addK ks k).Nodup := by
  unfold addK
  split
  · exact h
  · rename_i c
    exact List.nodup_append.mpr ⟨h, by simp, fun a ha b hb => by rw [List.mem_singleton.mp hb]; exact fun z => c (z ▸ ha)⟩
theorem mem_addK {ks : List Int} {k m : Int} : m ∈ addK ks k ↔ m ∈ ks ∨ m = k := by
  unfold addK
  split
  · rename_i c
    exact ⟨.inl, fun h => h.elim id fun z => z ▸ c⟩
  · rw [List.mem_append, List.mem_singleton]
theorem addK_len (ks : List Int) (k : Int) : (addK ks k).length ≤ ks.length + 1 := by
  unfold addK
  split
  · omega
  · rw [List.length_append]; exact Nat.le_refl _
theorem store_G {g : Bool → Sem Unit} (hg : ∀ (b : Bool) (s₁ : Shared) (Q' : Unit → Shared → Prop), Q' () s₁ → wpAny (model prog w) A (g b) Q' E s₁) {a : Addr} {o : Obj} {es : Array (Int × Value)} {ep : Nat} {t : SetTable} (ho : s.heap.get? a = some o) (hd : o.data = .set es ep t) {es1 : Array (Int × Value)} {t2 : SetTable} (hz : es1.size < scanBound) (h1 : 1 ≤ es1.size) (hf2 : t2.fits es1.size = true) (ok : TabOk t2) {wasDummy : Bool}
    {R : Option Bool → Shared → Prop} (h : ∀ (h' : Heap) (es3 : Array (Int × Value)) (t3 : SetTable) (ep3 : Nat), Heap.SameBut a s.heap h' → h'.get? a = some { o with data := .set es3 ep3 t3 } → es3.toList.Perm es1.toList → t3.fits es3.size = true → TabOk t3 → t3.led = t2.led → R (some true) { s with heap := h' }) :
    wpAny (model prog w) A (do
      storeSet a es1 t2
      if (!wasDummy && t2.tooFull) = true then do
        g (relayAll t2 es1 (SetTable.grown es1.size)).2.2
        storeSet a (relayAll t2 es1 (SetTable.grown es1.size)).1 (relayAll t2 es1 (SetTable.grown es1.size)).2.1
        pure (some true)
      else pure (some true)) R E s := by
  have sl := sizeLine_eq
  have sb : scanBound = 4096 := rfl
  refine wpAny_bind (wpAny_storeSet_of ho hd ?_ (by omega))
  have hg1 : (s.heap.update a (Obj.putSet es1 t2)).get? a = some { o with data := .set es1 (ep + 1) t2 } := by
    have := Heap.get?_update_self (Obj.putSet es1 t2) ho (by rw [putSet_of es1 t2 hd]; rfl)
    rw [putSet_of es1 t2 hd] at this
    exact this
  split
  · have pm := relayAll_perm t2 es1 (SetTable.grown es1.size)
    have ft := relayAll_fits t2 es1 (SetTable.grown es1.size)
    obtain ⟨ok2, led2⟩ := relayAll_ok (t := t2) h1 (SetTable.grown es1.size)
    generalize relayAll t2 es1 (SetTable.grown es1.size) = Rl at pm ft ok2 led2 ⊢
    obtain ⟨es2, t3, gave2⟩ := Rl
    dsimp only at pm ft ok2 led2 ⊢
    have sz : es2.size = es1.size := by rw [← Array.length_toList, pm.length_eq, Array.length_toList]
    refine wpAny_bind (hg _ _ _ (wpAny_bind (wpAny_storeSet_of hg1 rfl (wpAny_pure ?_) (by omega))))
    refine h _ es2 t3 (ep + 1 + 1) ((Heap.SameBut.update s.heap a (Obj.putSet es1 t2)).trans (Heap.SameBut.update _ a _)) ?_ pm ft ok2 led2
    have := Heap.get?_update_self (Obj.putSet es2 t3) hg1 (by rw [putSet_of es2 t3 rfl]; rfl)
    rw [putSet_of es2 t3 rfl] at this
    exact this
  · exact wpAny_pure (h _ es1 t2 (ep + 1) (Heap.SameBut.update s.heap a (Obj.putSet es1 t2)) hg1 (List.Perm.refl _) hf2 ok rfl)
theorem add_G {a : Addr} {ks : List Int} {tk : Nat} {k : Int} {Q : Bool → Shared → Prop} (hS : SetG prog w s.heap a ks) (hn : ks.length + 1 < 4096)
    (h : ∀ (h' : Heap) (b : Bool), Heap.SameBut a s.heap h' → SetG prog w h' a (addK ks k) → Q b { s with heap := h' }) :
    wpAny (model prog w) A (setAddHashed a (.int k tk) ((intKind prog w).hash k)) Q E s := by
  obtain ⟨o, es, ep, t, ho, hex, hd, hel, ⟨ms, hv, hp⟩, nd, hb, hf, ok, hled⟩ := hS
  have sb : scanBound = 4096 := rfl
  have hsz : es.size = ks.length := by
    have l1 := hv.length
    simp only [List.length_map, Array.length_toList] at l1
    have l2 := hp.length_eq
    omega
  have hkey : (intKind prog w).is k (.int k tk) = true := intKind_is _ _ _ _
  have hsc : (Value.int k tk).scannable = true := rfl
  have mem : k ∈ ks ↔ ∃ e ∈ es.toList, (intKind prog w).is k e.2 = true := by
    rw [← hp.mem_iff, vals_in hv]
    constructor
    · rintro ⟨tk, h⟩
      obtain ⟨e, he, h⟩ := List.mem_map.mp h
      exact ⟨e, he, is_int.mpr ⟨tk, h⟩⟩
    · rintro ⟨e, he, h⟩
      obtain ⟨tk, h⟩ := is_int.mp h
      exact ⟨tk, List.mem_map.mpr ⟨e, he, h⟩⟩
  unfold setAddHashed setAddHashedIn
  refine wpAny_holding (wpAny_bind (wpAny_setState_of ho hd hf ?_))
  dsimp only
  rw [byScan_of hsc hb hel, if_pos rfl]
  unfold setAddByScan
  refine wpAny_bind (wpAny_bind (wpAny_rule (wpAny_bind (wpAny_setScan_of hkey ho hd hf hel ?_))))
  cases hr : List.findIdx? (fun e => (intKind prog w).is k e.2) es.toList with
  | some j =>
    dsimp only
    obtain ⟨hj, hpj, _⟩ := List.findIdx?_eq_some_iff_getElem.mp hr
    have hin : k ∈ ks := mem.mpr ⟨_, List.getElem_mem hj, hpj⟩
    refine wpAny_pure (wpAny_pure ?_)
    refine h s.heap false (Heap.SameBut.refl a s.heap) ?_
    unfold addK
    rw [if_pos hin]
    exact ⟨o, es, ep, t, ho, hex, hd, hel, ⟨ms, hv, hp⟩, nd, hb, hf, ok, hled⟩
  | none =>
    dsimp only
    have hout : k ∉ ks := fun z => by
      obtain ⟨e, he, h⟩ := mem.mp z
      have := List.findIdx?_eq_none_iff.mp hr e he
      rw [h] at this; cases this
    have way : ∀ (b : Bool) {s₁ : Shared} {Q' : Unit → Shared → Prop}, Q' () s₁ → wpAny (model prog w) A (match b with | true => rule "set.scan.the-table-gave-way" | false => pure ()) Q' E s₁ := fun b s₁ Q' hq => by
      cases b
      · exact wpAny_pure hq
      · exact wpAny_rule hq
    have pm := layNew_perm t es ((intKind prog w).hash k) (.int k tk)
    have ft := layNew_fits t es ((intKind prog w).hash k) (.int k tk)
    obtain ⟨okL, ledL⟩ := layNew_ok ok es ((intKind prog w).hash k) (.int k tk)
    generalize layNew t es ((intKind prog w).hash k) (.int k tk) = L at pm ft okL ledL ⊢
    obtain ⟨es1, t1, wasDummy, gave⟩ := L
    dsimp only at pm ft okL ledL ⊢
    rw [Array.toList_push] at pm
    have sz1 : es1.size = es.size + 1 := by rw [← Array.length_toList, pm.length_eq, List.length_append, Array.length_toList]; rfl
    have fin : ∀ (t2 : SetTable), t2.led = t.led → ∀ (h' : Heap) (es3 : Array (Int × Value)) (t3 : SetTable) (ep3 : Nat), Heap.SameBut a s.heap h' → h'.get? a = some { o with data := .set es3 ep3 t3 } → es3.toList.Perm es1.toList → t3.fits es3.size = true → TabOk t3 → t3.led = t2.led → Q true { s with heap := h' } := fun t2 l2 h' es3 t3 ep3 hs hg p3 f3 o3 l3 => by
      have p := p3.trans pm
      refine h h' true hs ⟨_, es3, ep3, t3, hg, hex, rfl, (hel.push hkey hsc).perm p, ?_, addK_nodup nd, ?_, f3, o3, (l3.trans l2).trans hled⟩
      · have v2 : Vals ((ms ++ [k]).map V.int) ((es.toList ++ [((intKind prog w).hash k, Value.int k tk)]).map (·.2)) := by
          rw [List.map_append, List.map_append]
          exact vals_append hv (.cons ⟨tk, rfl⟩ .nil)
        obtain ⟨ns, n1, n2⟩ := vals_perm (p.map (·.2)) v2
        refine ⟨ns, n1, n2.trans ?_⟩
        unfold addK
        rw [if_neg hout]
        exact List.Perm.append_right _ hp
      · rw [← Array.length_toList, p3.length_eq, Array.length_toList, sz1, sb]; omega
    refine wpAny_bind (way _ ?_)
    have gw : ∀ (b : Bool) (s₁ : Shared) (Q' : Unit → Shared → Prop), Q' () s₁ → wpAny (model prog w) A (match b with | true => rule "set.scan.the-table-gave-way" | false => pure ()) Q' E s₁ := fun b s₁ Q' hq => way b hq
    split
    · refine wpAny_bind ?_
      rw [hashByValue_scannable 8 hsc]
      refine wpAny_pure ?_
      refine store_G gw ho hd (by omega) (by omega) ?_ ?_ fun h' es3 t3 ep3 hs hg p3 f3 o3 l3 => ?_
      · exact ft
      · exact okL
      · dsimp only
        exact wpAny_pure (fin _ ledL h' es3 t3 ep3 hs hg p3 f3 o3 l3)
    · refine wpAny_bind (wpAny_pure ?_)
      simp only [↓reduceIte]
      refine store_G gw ho hd (by omega) (by omega) ft okL fun h' es3 t3 ep3 hs hg p3 f3 o3 l3 => ?_
      dsimp only
      exact wpAny_pure (fin _ ledL h' es3 t3 ep3 hs hg p3 f3 o3 l3)
end
end L2

set_option Elab.async false
set_option linter.all false
set_option maxRecDepth 100000
set_option maxHeartbeats 4000000
namespace L2
open PySem PySem.Spec PyProof.Rows
/-- the ints of a row, each once -/
def ddI (ns : List Int) : List Int := ns.foldl addK []
theorem ddI_snoc (ns : List Int) (k : Int) : ddI (ns ++ [k]) = addK (ddI ns) k := by unfold ddI; rw [List.foldl_append]; rfl
theorem ddI_take {ns : List Int} {i : Nat} {k : Int} (h : ns[i]? = some k) : ddI (ns.take (i + 1)) = addK (ddI (ns.take i)) k := by
  rw [List.take_add_one, h]; exact ddI_snoc _ _
theorem ddI_fold : ∀ (ns acc : List Int), (ns.foldl addK acc).length ≤ acc.length + ns.length
  | [], acc => by simp
  | k :: r, acc => by
    have h1 := ddI_fold r (addK acc k)
    have h2 := addK_len acc k
    rw [List.foldl_cons, List.length_cons]; omega
theorem ddI_len (ns : List Int) : (ddI ns).length ≤ ns.length := by have := ddI_fold ns []; rw [List.length_nil] at this; unfold ddI; omega
theorem ddI_memF {m : Int} : ∀ (ns acc : List Int), m ∈ ns.foldl addK acc ↔ m ∈ acc ∨ m ∈ ns
  | [], acc => by simp
  | k :: r, acc => by
    rw [List.foldl_cons, ddI_memF r, mem_addK, List.mem_cons, or_assoc]
theorem ddI_mem {m : Int} {ns : List Int} : m ∈ ddI ns ↔ m ∈ ns := by
  unfold ddI
  rw [ddI_memF]
  simp
section
variable {prog : Program} {w : World} {A : Around} {R : Result → Shared → Prop} {I : Addr} {fp wr : List Addr} {G : Array GenState → Array GenState → Prop} {n : Nat} {P : Nat → Value → Prop} {St : Nat → Shared → Prop}
theorem loop_G (W : WalksS prog w A.in1 I fp wr G n P St) (S : Addr) (hSf : S ∉ fp) (ns : List Int) (hval : ∀ i v, P i v → ∃ k t, v = .int k t ∧ ns[i]? = some k) (hb : n < 4095) :
    ∀ (k i : Nat) (s : Shared), n - i = k → i ≤ n → St i s → SetG prog w s.heap S (ddI (ns.take i)) →
      (∀ s', Moved (S :: wr) G s s' → SetG prog w s'.heap S (ddI (ns.take n)) → R (.ok (.ret .none)) s') →
      codeAny (model prog w) A (.builtin "set.update.loop" ⟨[.ref S, .ref I], []⟩) R s := by
  have hSw : S ∉ wr := fun h => hSf (W.sub _ h)
  have hsub : ∀ b ∈ wr, b ∈ S :: wr := fun b hb => List.mem_cons_of_mem _ hb
  intro k
  induction k with
  | zero =>
    intro i s hk hi hst hS hR
    have hin : i = n := by omega
    subst hin
    refine codeAny_builtin F.entry_set_update_loop ?_
    rw [Around.under_plainId F.plain_set_update_loop _]
    show wpAny _ A.in1 (pyNext (.ref I) >>= _) _ _ s
    refine wpAny_bind (W.done s _ _ hst fun s' hm => ?_)
    show wpAny _ A.in1 (ret Value.none) _ _ s'
    exact wpAny_pure (hR s' (hm.mono hsub) (hS.keep fun o e => hm.heap S _ hSw e))
  | succ k ih =>
    intro i s hk hi hst hS hR
    have hlt : i < n := by omega
    refine codeAny_builtin F.entry_set_update_loop ?_
    rw [Around.under_plainId F.plain_set_update_loop _]
    show wpAny _ A.in1 (pyNext (.ref I) >>= _) _ _ s
    refine wpAny_bind (W.item i s _ _ hlt hst fun v s' hP hst' hm => ?_)
    obtain ⟨z, t, rfl, hz⟩ := hval i v hP
    have hS' : SetG prog w s'.heap S (ddI (ns.take i)) := hS.keep fun o e => hm.heap S _ hSw e
    show wpAny _ A.in1 (holding [Value.int z t] (setAdd S (.int z t)) >>= _) _ _ s'
    refine wpAny_bind (wpAny_holding ?_)
    unfold setAdd
    refine wpAny_holding (wpAny_bind ((intKind prog w).pyHash (k := z) (intKind_is _ _ _ _) ?_))
    refine add_G (s := { s' with toks := s'.toks + 1 }) hS' (by have := ddI_len (ns.take i); rw [List.length_take] at this; omega) fun h' b hsb hS2 => ?_
    rw [← ddI_take hz] at hS2
    refine wpAny_pure ⟨plainId_quiet F.plain_set_update_loop _, ih (i + 1) _ (by omega) hlt (W.frame _ s' _ _ hst' (Nat.le_succ _) fun b hb o e => ?_) hS2 fun s'' hm'' hS'' => ?_⟩
    · rw [hsb.2 b (fun h : b = S => hSf (by rw [← h]; exact hb))]; exact e
    · refine hR s'' (Moved.trans W.gtrans ((hm.mono hsub).then_heap (Nat.le_succ _) fun b o hb e => ?_) hm'') hS''
      rw [hsb.2 b (fun h : b = S => hb (by rw [h]; exact List.mem_cons_self))]; exact e
end
end L2

set_option Elab.async false
set_option linter.all false
set_option maxRecDepth 100000
set_option maxHeartbeats 4000000
namespace L2
open PySem PySem.Spec PyProof.Rows
section
variable {prog : Program} {w : World} {A : Around} {E : Value → Shared → Prop} {s : Shared}
theorem newS_G {h : Heap} {a : Addr} (e : h.get? a = some (newS w)) : SetG prog w h a (ddI []) :=
  ⟨_, #[], 0, _, e, ⟨rfl, rfl, rfl⟩, rfl, fun x hx => by simp at hx, ⟨[], .nil, List.Perm.refl _⟩, List.nodup_nil, by decide, rfl, ⟨rfl, fun i j _ hj => by simp [SetTable.fresh] at hj, Nat.le_refl _⟩, rfl⟩
/-- set of a list of ints -/
theorem set_G {l : Addr} {items : Array Value} {ns : List Int} {Q : Value → Shared → Prop}
    (hh : A.handled = none) (hl : s.heap.IsList l items) (hi : ∀ (i : Nat) (v : Value), items[i]? = some v → ∃ k t, v = .int k t ∧ ns[i]? = some k) (hb : items.size < 4095) (hns : ns.length = items.size)
    (h : ∀ (h' : Heap) (tk : Nat), SetG prog w h' s.heap.objs.size (ddI ns) → (∀ b o, b < s.heap.objs.size → s.heap.get? b = some o → h'.get? b = some o) → Q (.ref s.heap.objs.size) { s with heap := h', toks := tk }) :
    wpAny (model prog w) A (call (.type "set") [.ref l]) Q E s := by
  obtain ⟨c, tl, hmro⟩ := F.called_set.mro
  have hmade := F.called_set.made
  have hsub := F.called_set.sub
  refine wpAny_call (codeAny_of_tree ?_)
  show wpAny _ _ (callAny (.type "set") _) _ _ _
  refine wpAny_pure ⟨Code.quiet_builtin _ (by decide +kernel), codeAny_builtin F.entry_type_call ?_⟩
  rw [Around.under_plain (weight_type_call_type "set" [.ref l] []) rfl]
  have h1 := F.called_set.notType
  have h2 := F.called_set.canCreate
  have hct := F.typeCall_set_1 (.ref l)
  repeat (any_goals (first | assumption | wp_step))
  refine codeAny_mono (new_L (.ref l) (E := E) (Q₁ := fun obj s₁ => obj = .ref s.heap.objs.size ∧ s₁ = { s with heap := s.heap.push (newS w) }) ⟨rfl, rfl⟩) fun r s₁ hr => ?_
  cases r with
  | error e => exact hr
  | ok fl =>
    cases fl with
    | ret obj =>
      obtain ⟨rfl, rfl⟩ := hr
      have hS : (s.heap.push (newS w)).get? s.heap.objs.size = some (newS w) := Heap.get?_push_size _ rfl
      have hT : Shared.TypeIs { s with heap := s.heap.push (newS w) } (.ref s.heap.objs.size) "set" := ⟨_, hS, rfl⟩
      have hli := F.called_set.init.lookup
      have hbi := F.called_set.init.bind (.ref s.heap.objs.size)
      repeat (any_goals (first | assumption | wp_step))
      refine codeAny_mono (codeAny_call_builtin (R := wants (fun r s₂ => r = .none ∧ ∃ h' tk, s₂ = { s with heap := h', toks := tk } ∧ SetG prog w h' s.heap.objs.size (ddI ns) ∧
          (∀ b o, b < s.heap.objs.size → s.heap.get? b = some o → h'.get? b = some o)) E) F.called_set.init.plain F.entry_set_init (check_set_init_1 hT ?_)) fun r₂ s₂ hr₂ => ?_
      · obtain ⟨ol, hol, hcl, nl, hdl⟩ := hl
        obtain ⟨ocls, odict, odata, oslots⟩ := ol
        simp only at hcl hdl
        subst hcl; subst hdl
        have hol' : (s.heap.push (newS w)).get? l = some { cls := .type "list", dict := odict, data := .seq items nl, slots := oslots } := Heap.get?_push_of_some _ hol
        have hsls := F.sub_list_set
        have hslf := F.sub_list_frozenset
        have hne : (Value.type "list" == Value.type "dict") = false := by decide
        have hl1 : (s.heap.push (newS w)).IsList l items := ⟨_, hol', rfl, nl, rfl⟩
        unfold Builtin.«set.__init__» noKeywords Builtin.Frozenset.updateFrom
        generalize hPI : pyIter = PI
        wp_walk
        subst hPI
        refine wpAny_pyIter_list hl1 (wpAny_bind (wpAny_runValue ?_))
        have hlS : l < s.heap.objs.size := Heap.lt_size hol
        have hh3 : A.in1.in1.in1.handled = none := by simp [hh]
        have zN : (s.heap.push (newS w)).objs.size = s.heap.objs.size + 1 := Heap.size_push _ _
        have hneI : l ≠ (s.heap.push (newS w)).objs.size := by rw [zN]; exact Nat.ne_of_lt (Nat.lt_succ_of_lt hlS)
        have hSf : s.heap.objs.size ∉ [(s.heap.push (newS w)).objs.size, l] := by
          rw [zN]
          simp only [List.mem_cons, List.not_mem_nil, or_false, not_or]
          exact ⟨Nat.ne_of_lt (Nat.lt_succ_self _), Nat.ne_of_gt hlS⟩
        refine loop_G ((Walks.list hh3 _ l hneI items).toS) s.heap.objs.size hSf ns hi hb (items.size - 0) 0 _ (by omega) (Nat.zero_le _) ⟨⟨_, Heap.get?_push_size _ rfl, rfl, rfl⟩, (hl1.push _)⟩ ?hS0 ?hR
        case hS0 => rw [List.take_zero]; exact newS_G (Heap.get?_push_of_some _ hS)
        case hR =>
          intro s' hm hS'
          obtain ⟨h', g', d', tk', os'⟩ := s'
          have eg : g' = s.gens := hm.gens
          have ed : d' = s.drawn := hm.drawn
          have eo : os' = s.os := hm.os
          subst eg; subst ed; subst eo
          rw [← hns, List.take_length] at hS'
          show wpAny _ _ _ _ _ _
          refine wpAny_pure ?_
          show wpAny _ _ (ret Value.none) _ _ _
          refine wpAny_pure ⟨rfl, h', tk', rfl, hS', fun b o hb e => ?_⟩
          exact hm.heap b o (by rw [zN]; simp only [List.mem_cons, List.not_mem_nil, or_false, not_or]; exact ⟨Nat.ne_of_lt hb, Nat.ne_of_lt (Nat.lt_succ_of_lt hb)⟩) (Heap.get?_push_of_some _ (Heap.get?_push_of_some _ e))
      · cases r₂ with
        | error e => exact hr₂
        | ok fl₂ =>
          cases fl₂ with
          | ret r =>
            obtain ⟨rfl, h', tk, rfl, hS', hk'⟩ := hr₂
            repeat (any_goals (first | assumption | wp_step))
            exact h _ _ hS' hk'
          | _ => exact hr₂.elim
    | _ => exact hr.elim
end
end L2

set_option Elab.async false
set_option linter.all false
set_option maxRecDepth 100000
set_option maxHeartbeats 4000000
namespace L2
open PySem PySem.Spec PyProof.Rows
/-- a set's iterator: at turn i of n -/
def SIter (h : Heap) (it a : Addr) (first : Value) (i n ep : Nat) : Prop := ∃ o, h.get? it = some o ∧ o.cls = .type "set_iterator" ∧ o.data = .fields #[first, .int i 0, .ref a, .int n 0, .int ep 0]
theorem SIter.typeIs {s : Shared} {it a : Addr} {first : Value} {i n ep : Nat} (x : SIter s.heap it a first i n ep) : s.TypeIs (.ref it) "set_iterator" := by
  obtain ⟨o, h1, h2, _⟩ := x
  exact ⟨o, h1, h2⟩
end L2
namespace L2
open PySem PySem.Spec PyProof.Rows
theorem slot_si_next : Slot "set_iterator" "__next__" "set_iterator.__next__" :=
  .of (owner := "set_iterator") (n := "__next__") (by rw [typeLookup_type, builtinLookup_eq_fast]; kernel_rfl) (by decide +kernel) (by decide +kernel) (by decide +kernel)
    (by first | exact .inl (by decide +kernel) | exact .inr (by decide +kernel)) (by rw [isSubtype_type]; kernel_rfl)
theorem entry_si_next : entryFor table "set_iterator.__next__" = some Builtin.«set_iterator.__next__» := entryFor_of_fast (by kernel_rfl)
theorem args_si_next (a : Value) : argsOk "set_iterator.__next__" ⟨[a], []⟩ := by unfold argsOk; kernel_rfl
section
variable {prog : Program} {w : World} {A : Around} {E : Value → Shared → Prop} {s : Shared}
theorem next_plain {it a : Addr} {slot i n ep : Nat} {o : Obj} {es : Array (Int × Value)} {t : SetTable} {x : Int × Value} {Q : Option Value → Shared → Prop} (hit : SIter s.heap it a (.int slot 0) i n ep) (ho : s.heap.get? a = some o) (hd : o.data = .set es ep t) (hf : t.fits es.size = true) (hn : es.size = n)
    (hbt : byT w = false) (hdr : (!t.plain && decide (es.size > 1)) = false) (hled : t.led = true) (hx : es[i]? = some x) (hb : SetTable.below t.place slot = i)
    (hQ : ∀ h', SIter h' it a (.int ((t.place.getD i 0 + 1 : Nat) : Int) 0) (i + 1) n ep → Heap.SameBut it s.heap h' → Q (some x.2) { s with heap := h' }) : wpAny (model prog w) A (pyNext (.ref it)) Q E s := by
  obtain ⟨oi, hoi, hci, hdi⟩ := id hit
  have hi : i < es.size := (Array.getElem?_eq_some_iff.mp hx).1
  have hp : t.place.size = es.size := by
    simp only [SetTable.fits, Bool.and_eq_true, beq_iff_eq] at hf
    exact hf.1
  unfold pyNext
  refine wpAny_bind (wpAny_attempt (wpAny_callSpecial?_slot (name := Str.ofString "__next__") hit.typeIs slot_si_next (wpAny_call_entry slot_si_next hit.typeIs entry_si_next ?_ (args_si_next _))))
  show wpAny _ _ (fieldsOf (.ref it) >>= _) _ _ s
  refine wpAny_bind (wpAny_fieldsOf hoi hdi ?_)
  dsimp only
  refine wpAny_bind (wpAny_setEntries_of ho hd hf ?_)
  rw [hn]
  simp only [bne_self_eq_false, Bool.false_eq_true, if_false]
  unfold setNext
  refine wpAny_bind (wpAny_bind (wpAny_setState_of ho hd hf ?_))
  dsimp only
  unfold setsByText
  refine wpAny_bind (wpAny_bind (wpAny_askSetting (wpAny_pure ?_)))
  rw [if_neg (fun e => by have e2 : byT w = true := e; rw [hbt] at e2; cases e2)]
  rw [if_neg (fun e => by have e2 : (!t.plain && decide (es.size > 1)) = true := e; rw [hdr] at e2; cases e2)]
  refine wpAny_bind ?_
  show wpAny _ _ (if (!t.led && !es.isEmpty) = true then unsupported "set:maker-not-led" else pure ()) _ _ _
  rw [hled, if_neg (by simp)]
  refine wpAny_pure ?_
  have hpi : t.place[i]? = some (t.place.getD i 0) := by
    have : i < t.place.size := by omega
    rw [Array.getD_eq_getD_getElem?, Array.getElem?_eq_getElem this]
    rfl
  simp only [Int.toNat_natCast, hb, hx, hpi]
  refine wpAny_pure ?_
  dsimp only
  refine wpAny_bind (wpAny_setField hoi hdi (by simp) ?_)
  have ho2 := Heap.get?_update_self (Obj.mapFields fun vs => vs.setIfInBounds 0 (rawInt ((t.place.getD i 0 + 1 : Nat) : Int))) hoi (Obj.isFreed_of_fields (Obj.data_mapFields hdi _))
  have hd2 : (Obj.mapFields (fun vs => vs.setIfInBounds 0 (rawInt ((t.place.getD i 0 + 1 : Nat) : Int))) oi).data = .fields #[.int ((t.place.getD i 0 + 1 : Nat) : Int) 0, .int i 0, .ref a, .int n 0, .int ep 0] := by
    rw [Obj.data_mapFields hdi]
    rfl
  refine wpAny_bind (wpAny_setField ho2 hd2 (by simp) (wpAny_pure ⟨_, rfl, wpAny_pure (hQ _ ?_ ((Heap.SameBut.update ..).trans (Heap.SameBut.update ..)))⟩))
  exact ⟨_, Heap.get?_update_self _ ho2 (Obj.isFreed_of_fields (Obj.data_mapFields hd2 _)), (Obj.cls_mapFields ..).trans ((Obj.cls_mapFields ..).trans hci), by rw [Obj.data_mapFields hd2]; rfl⟩
end
end L2

set_option Elab.async false
set_option linter.all false
set_option maxRecDepth 100000
set_option maxHeartbeats 4000000
namespace L2
open PySem PySem.Spec PyProof.Rows
theorem pick_go {α : Type} (next : Nat → Nat) : ∀ (fuel k : Nat) (left : List α) (out : Array α), left.length = fuel → (pickOrder.go next fuel k left out).size = out.size + left.length ∧ ∀ x ∈ pickOrder.go next fuel k left out, x ∈ out ∨ x ∈ left
  | 0, k, left, out, h => by
    have e : pickOrder.go next 0 k left out = out := by unfold pickOrder.go; rfl
    rw [e]
    exact ⟨by omega, fun x hx => .inl hx⟩
  | fuel + 1, k, left, out, h => by
    have lt : next k % left.length < left.length := Nat.mod_lt _ (by omega)
    have e : pickOrder.go next (fuel + 1) k left out = pickOrder.go next fuel (k + 1) (left.eraseIdx (next k % left.length)) (out.push left[next k % left.length]) := by
      rw [pickOrder.go, List.getElem?_eq_getElem lt]
    have le : (left.eraseIdx (next k % left.length)).length = fuel := by rw [List.length_eraseIdx_of_lt lt]; omega
    obtain ⟨a, b⟩ := pick_go next fuel (k + 1) (left.eraseIdx (next k % left.length)) (out.push left[next k % left.length]) le
    rw [e]
    refine ⟨by rw [a, Array.size_push]; omega, fun x hx => ?_⟩
    rcases b x hx with h | h
    · rcases Array.mem_push.mp h with h | h
      · exact .inl h
      · exact .inr (by rw [h]; exact List.getElem_mem lt)
    · exact .inr (List.mem_of_mem_eraseIdx h)
theorem pick_spec {α : Type} (next : Nat → Nat) (xs : Array α) : (pickOrder next xs).size = xs.size ∧ ∀ x ∈ pickOrder next xs, x ∈ xs.toList := by
  unfold pickOrder
  obtain ⟨a, b⟩ := pick_go next xs.size 0 xs.toList #[] (by simp)
  refine ⟨by rw [a]; simp, fun x hx => ?_⟩
  rcases b x hx with h | h
  · simp at h
  · exact h
section
variable {prog : Program} {w : World} {A : Around} {E : Value → Shared → Prop} {s : Shared}
theorem wp_if {M : Model} {α : Type} {c : Prop} [Decidable c] {p q : Sem α} {R : α → Shared → Prop} (h : c) (k : wpAny M A p R E s) : wpAny M A (if c then p else q) R E s := by rw [if_pos h]; exact k
theorem wp_ifn {M : Model} {α : Type} {c : Prop} [Decidable c] {p q : Sem α} {R : α → Shared → Prop} (h : ¬ c) (k : wpAny M A q R E s) : wpAny M A (if c then p else q) R E s := by rw [if_neg h]; exact k
end
end L2

set_option Elab.async false
set_option linter.all false
set_option maxRecDepth 100000
set_option maxHeartbeats 4000000
namespace L2
open PySem PySem.Spec PyProof.Rows
section
variable {prog : Program} {w : World} {A : Around} {E : Value → Shared → Prop} {s : Shared}
theorem next_drawn {it a tp : Addr} {i n ep p nt : Nat} {o ot : Obj} {es : Array (Int × Value)} {t : SetTable} {x : Int × Value} {places : Array Value} {Q : Option Value → Shared → Prop} (hit : SIter s.heap it a (.ref tp) i n ep) (ho : s.heap.get? a = some o) (hd : o.data = .set es ep t) (hf : t.fits es.size = true) (hn : es.size = n)
    (hot : s.heap.get? tp = some ot) (hdt : ot.data = .seq places nt) (hp : places[i]? = some (.int p 0)) (hx : es[p]? = some x)
    (hQ : ∀ h', SIter h' it a (.ref tp) (i + 1) n ep → Heap.SameBut it s.heap h' → Q (some x.2) { s with heap := h' }) : wpAny (model prog w) A (pyNext (.ref it)) Q E s := by
  obtain ⟨oi, hoi, hci, hdi⟩ := id hit
  unfold pyNext
  refine wpAny_bind (wpAny_attempt (wpAny_callSpecial?_slot (name := Str.ofString "__next__") hit.typeIs slot_si_next (wpAny_call_entry slot_si_next hit.typeIs entry_si_next ?_ (args_si_next _))))
  show wpAny _ _ (fieldsOf (.ref it) >>= _) _ _ s
  refine wpAny_bind (wpAny_fieldsOf hoi hdi ?_)
  dsimp only
  refine wpAny_bind (wpAny_setEntries_of ho hd hf ?_)
  rw [hn]
  simp only [bne_self_eq_false, Bool.false_eq_true, if_false]
  refine wpAny_bind (wpAny_seqItems hot hdt ?_)
  simp only [Int.toNat_natCast, hp]
  unfold setNextDrawn
  refine wpAny_bind (wpAny_bind (wpAny_setState_of ho hd hf ?_))
  dsimp only
  refine wp_ifn (by simp) ?_
  rw [hx]
  refine wpAny_pure ?_
  refine wpAny_bind (wpAny_setField hoi hdi (by simp) (wpAny_pure ⟨_, rfl, wpAny_pure (hQ _ ?_ (Heap.SameBut.update ..))⟩))
  exact ⟨_, Heap.get?_update_self _ hoi (Obj.isFreed_of_fields (Obj.data_mapFields hdi _)), (Obj.cls_mapFields ..).trans hci, by rw [Obj.data_mapFields hdi]; rfl⟩
/-- the end of a walk: StopIteration, and none -/
theorem stop_L {it a : Addr} {first : Value} {i n ep : Nat} {o : Obj} {es : Array (Int × Value)} {t : SetTable} {Q : Option Value → Shared → Prop} (hh : A.handled = none) (hit : SIter s.heap it a (.int first' 0) i n ep) (ho : s.heap.get? a = some o) (hd : o.data = .set es ep t) (hf : t.fits es.size = true) (hn : es.size = n)
    (hnone : ∀ R : Option (Value × Nat) → Shared → Prop, R none s → wpAny (model prog w) A.in1 (setNext a (first' : Int).toNat (i : Int).toNat (ep : Int).toNat) R (fun e s' => wpAny (model prog w) A (do if (← isInstance e (.type "StopIteration")) then pure none else throw e) Q E s') s)
    (hQ : ∀ h', Heap.ExtBut it s.heap h' → Q none { s with heap := h' }) : wpAny (model prog w) A (pyNext (.ref it)) Q E s := by
  obtain ⟨oi, hoi, hci, hdi⟩ := id hit
  unfold pyNext
  refine wpAny_bind (wpAny_attempt (wpAny_callSpecial?_slot (name := Str.ofString "__next__") hit.typeIs slot_si_next (wpAny_call_entry slot_si_next hit.typeIs entry_si_next ?_ (args_si_next _))))
  show wpAny _ _ (fieldsOf (.ref it) >>= _) _ _ s
  refine wpAny_bind (wpAny_fieldsOf hoi hdi ?_)
  dsimp only
  refine wpAny_bind (wpAny_setEntries_of ho hd hf ?_)
  rw [hn]
  simp only [bne_self_eq_false, Bool.false_eq_true, if_false]
  refine wpAny_bind (hnone _ ?_)
  dsimp only
  refine wpAny_bind (wpAny_setField hoi hdi (by simp) ?_)
  show wpAny _ _ (newExc (.type "StopIteration") [] >>= _) _ _ _
  refine wpAny_bind ?_
  simp only [newExc, newTuple]
  refine wpAny_bind (wpAny_newObj_type ?_ (by size_fits))
  refine wpAny_bind (m := firstArgMember _ _) (wpAny_of_eq (a := Value.none) (by first | rfl | (simp only [firstArgMember]; rfl)) ?_)
  refine wpAny_newObj_type ?_ (by size_fits)
  simp only [raiseNew]
  refine wpAny_bind (wpAny_handled ?_)
  rw [show A.in1.handled = none from hh]
  refine wpAny_bind (wpAny_pure (wpAny_throw ?_))
  refine wpAny_bind (wpAny_isInstance (T := "StopIteration") (b := true) ⟨_, Heap.get?_push_size _ rfl, rfl⟩ isSubtype_stop ?_)
  exact wpAny_pure (hQ _ (((Heap.SameBut.update ..).extBut.push _).push _))
end
end L2

set_option Elab.async false
set_option linter.all false
set_option maxRecDepth 100000
set_option maxHeartbeats 4000000
namespace L2
open PySem PySem.Spec PyProof.Rows
theorem slot_si_iter : Slot "set_iterator" "__iter__" "set_iterator.__iter__" :=
  .of (owner := "set_iterator") (n := "__iter__") (by rw [typeLookup_type, builtinLookup_eq_fast]; kernel_rfl) (by decide +kernel) (by decide +kernel) (by decide +kernel)
    (by first | exact .inl (by decide +kernel) | exact .inr (by decide +kernel)) (by rw [isSubtype_type]; kernel_rfl)
theorem entry_si_iter : entryFor table "set_iterator.__iter__" = some Builtin.«dict_keyiterator.__iter__» :=
  entryFor_alias (id' := "dict_keyiterator.__iter__") (by kernel_rfl) rfl (by decide +kernel) (by kernel_rfl)
theorem args_si_iter (a : Value) : argsOk "set_iterator.__iter__" ⟨[a], []⟩ := by unfold argsOk; kernel_rfl
theorem entry_set_iter : entryFor table "set.__iter__" = some Builtin.«frozenset.__iter__» :=
  entryFor_alias (id' := "frozenset.__iter__") (by kernel_rfl) rfl (by decide +kernel) (by kernel_rfl)
theorem args_set_iter (a : Value) : argsOk "set.__iter__" ⟨[a], []⟩ := by unfold argsOk; kernel_rfl
section
variable {prog : Program} {w : World} {A : Around} {E : Value → Shared → Prop} {s : Shared}
end
end L2

set_option Elab.async false
set_option linter.all false
set_option maxRecDepth 100000
set_option maxHeartbeats 4000000
namespace L2
open PySem PySem.Spec PyProof.Rows
section
variable {prog : Program} {w : World} {A : Around} {E : Value → Shared → Prop} {s : Shared}
theorem hint_L {r : Addr} {Q : Bool → Shared → Prop} (hT : s.TypeIs (.ref r) "set") (h : Q false s) : wpAny (model prog w) A (Builtin.List.listLengthHint (.ref r)) Q E s := by
  unfold Builtin.List.listLengthHint
  refine wpAny_bind (wpAny_specialOf hT PySem.F.slot_set_len.lookup ?_)
  generalize hid : ("set.__len__" : String) = id0
  wp_delta
  rw [show splitId id0 = some ("set", "__len__") from by subst hid; decide +kernel]
  subst hid
  refine wpAny_bind (wpAny_isInstance (T := "set") (b := true) hT (by rw [isSubtype_type]; kernel_rfl) ?_)
  refine wpAny_ite_split (fun hab => absurd hab (by decide)) (fun _ => ?_)
  refine wpAny_ite_split (fun _ => ?_) (fun hab => absurd (by decide +kernel) hab)
  refine wpAny_bind (wpAny_typeOf hT ?_)
  exact wpAny_pure h
def oIter (a : Addr) (n ep : Nat) : Obj := { cls := .type "set_iterator", data := .fields #[.int ((0 : Nat) : Int) 0, .int ((0 : Nat) : Int) 0, .ref a, .int n 0, .int ep 0] }
end
end L2

set_option Elab.async false
set_option linter.all false
set_option maxRecDepth 100000
set_option maxHeartbeats 4000000
namespace L2
open PySem PySem.Spec PyProof.Rows PySem.W
section
variable {prog : Program} {w : World} {A : Around} {E : Value → Shared → Prop} {s : Shared}
theorem iadd_L {R : Result → Shared → Prop} {T : String} {S r d : Addr} {n : Nat} {P : Nat → Value → Prop} {OK : Heap → Prop} (K : KdlSrc prog w T r d n P OK) (hh : A.handled = none) (hok : OK s.heap) (hSr : S ≠ r) (hSd : S ≠ d) (hS : s.heap.get? S = some { cls := .type "list", data := .seq #[] 0 }) (hn : n ≤ sizeLine)
    (hR : ∀ h' tk acc' c', (∀ b o, b ≠ S → s.heap.get? b = some o → h'.get? b = some o) → h'.get? S = some { cls := .type "list", dict := none, data := .seq acc' c', slots := #[] } → ItemsOf P acc' n → R (.ok (.ret (.ref S))) { s with heap := h', toks := tk }) :
    codeAny (model prog w) A (.builtin "list.__iadd__" ⟨[.ref S, .ref r], []⟩) R s := by
  refine codeAny_builtin entry_list_iadd' ?_
  rw [Around.under_plainId PySem.F.plain_list_iadd _]
  exact kdl_extend K hh hok S hSr hSd (.ref S) 0 hS hR hn
end
end L2

set_option Elab.async false
set_option linter.all false
set_option maxRecDepth 100000
set_option maxHeartbeats 4000000
namespace L2
open PySem PySem.Spec PyProof.Rows PySem.W
/-! a set of ints is walked, in whatever order -/
theorem erase_perm {α : Type} : ∀ (l : List α) (i : Nat) (h : i < l.length), (l[i] :: l.eraseIdx i).Perm l
  | x :: r, 0, h => List.Perm.refl _
  | x :: r, i + 1, h => (List.Perm.swap x _ _).trans ((erase_perm r i (by simpa using h)).cons x)
theorem pick_goP {α : Type} (next : Nat → Nat) : ∀ (fuel k : Nat) (left : List α) (out : Array α), left.length = fuel → (pickOrder.go next fuel k left out).toList.Perm (out.toList ++ left)
  | 0, k, left, out, h => by
    have e : pickOrder.go next 0 k left out = out := by unfold pickOrder.go; rfl
    have el : left = [] := List.eq_nil_of_length_eq_zero h
    rw [e, el, List.append_nil]
  | fuel + 1, k, left, out, h => by
    have lt : next k % left.length < left.length := Nat.mod_lt _ (by omega)
    have e : pickOrder.go next (fuel + 1) k left out = pickOrder.go next fuel (k + 1) (left.eraseIdx (next k % left.length)) (out.push left[next k % left.length]) := by
      rw [pickOrder.go, List.getElem?_eq_getElem lt]
    have le : (left.eraseIdx (next k % left.length)).length = fuel := by rw [List.length_eraseIdx_of_lt lt]; omega
    have p := pick_goP next fuel (k + 1) (left.eraseIdx (next k % left.length)) (out.push left[next k % left.length]) le
    rw [e]
    refine p.trans ?_
    rw [Array.toList_push, List.append_assoc]
    exact List.Perm.append_left _ (erase_perm _ _ lt)
theorem pick_perm {α : Type} (next : Nat → Nat) (xs : Array α) : (pickOrder next xs).toList.Perm xs.toList := by
  unfold pickOrder
  have := pick_goP next xs.size 0 xs.toList #[] (by simp)
  simpa using this
section
variable {prog : Program} {w : World} {A : Around} {E : Value → Shared → Prop} {s : Shared}
theorem choose_any {M : Model} {src : Source} {n : Nat} {Q : Nat → Shared → Prop} (hn : n ≠ 0) (h : ∀ i d', i < n → Q i { s with drawn := d' }) : wpAny M A (choose src n) Q E s :=
  fun Γ p hΓ => ⟨hn, h _ _ (Nat.mod_lt _ (Nat.pos_of_ne_zero hn))⟩
theorem draw_any {M : Model} {α : Type} : ∀ (n : Nat) (xs : List α) {s : Shared} {Q : List α → Shared → Prop}, xs.length = n → (∀ ys d', ys.Perm xs → Q ys { s with drawn := d' }) → wpAny M A (drawOrder n xs) Q E s
  | 0, xs, s, Q, hl, h => by
    have : xs = [] := List.eq_nil_of_length_eq_zero hl
    subst this
    unfold drawOrder
    exact wpAny_pure (h [] s.drawn (List.Perm.refl _))
  | n + 1, [], s, Q, hl, h => by simp at hl
  | n + 1, x :: r, s, Q, hl, h => by
    unfold drawOrder
    refine wpAny_bind (choose_any (by simp) fun i d' hi => ?_)
    rw [List.getElem?_eq_getElem hi]
    dsimp only
    refine wpAny_bind (draw_any n ((x :: r).eraseIdx i) (s := { s with drawn := d' }) (by rw [List.length_eraseIdx_of_lt hi]; omega) fun ys d2 p => ?_)
    exact wpAny_pure (h _ d2 ((p.cons _).trans (erase_perm _ _ hi)))
/-- the next item where the order is the setting's -/
theorem next_textG {it a : Addr} {slot i n ep : Nat} {o : Obj} {es : Array (Int × Value)} {t : SetTable} {x : Int × Value} {Q : Option Value → Shared → Prop} (hit : SIter s.heap it a (.int slot 0) i n ep) (ho : s.heap.get? a = some o) (hd : o.data = .set es ep t) (hf : t.fits es.size = true) (hn : es.size = n)
    (hbt : byT w = true) (hx : (pickOrder (w.params.setOrder a ep) es)[i]? = some x)
    (hQ : ∀ h', SIter h' it a (.int slot 0) (i + 1) n ep → Heap.SameBut it s.heap h' → Q (some x.2) { s with heap := h' }) : wpAny (model prog w) A (pyNext (.ref it)) Q E s := by
  obtain ⟨oi, hoi, hci, hdi⟩ := id hit
  unfold pyNext
  refine wpAny_bind (wpAny_attempt (wpAny_callSpecial?_slot (name := Str.ofString "__next__") hit.typeIs slot_si_next (wpAny_call_entry slot_si_next hit.typeIs entry_si_next ?_ (args_si_next _))))
  show wpAny _ _ (fieldsOf (.ref it) >>= _) _ _ s
  refine wpAny_bind (wpAny_fieldsOf hoi hdi ?_)
  dsimp only
  refine wpAny_bind (wpAny_setEntries_of ho hd hf ?_)
  rw [hn]
  simp only [bne_self_eq_false, Bool.false_eq_true, if_false]
  unfold setNext setWalk
  refine wpAny_bind (wpAny_bind (wpAny_setState_of ho hd hf ?_))
  dsimp only
  unfold setsByText
  refine wpAny_bind (wpAny_bind (wpAny_askSetting (wpAny_pure ?_)))
  refine wp_if hbt (wp_ifn (by simp) ?_)
  refine wpAny_bind (wpAny_bind (wpAny_setState_of ho hd hf ?_))
  dsimp only
  refine wpAny_bind (wpAny_bind (wpAny_askSetting (wpAny_pure ?_)))
  refine wp_if hbt ?_
  refine wpAny_bind (wpAny_askSetting (wpAny_pure ?_))
  have hx' : (pickOrder ((model prog w).w.params.setOrder a ep) es)[i]? = some x := hx
  simp only [Int.toNat_natCast]
  rw [hx']
  refine wpAny_pure ?_
  dsimp only [Option.map]
  refine wpAny_bind (wpAny_setField hoi hdi (by simp) ?_)
  have ho2 := Heap.get?_update_self (Obj.mapFields fun vs => vs.setIfInBounds 0 (rawInt (slot : Int))) hoi (Obj.isFreed_of_fields (Obj.data_mapFields hdi _))
  have hd2 : (Obj.mapFields (fun vs => vs.setIfInBounds 0 (rawInt (slot : Int))) oi).data = .fields #[.int slot 0, .int i 0, .ref a, .int n 0, .int ep 0] := by
    rw [Obj.data_mapFields hdi]
    rfl
  refine wpAny_bind (wpAny_setField ho2 hd2 (by simp) (wpAny_pure ⟨_, rfl, wpAny_pure (hQ _ ?_ ((Heap.SameBut.update ..).trans (Heap.SameBut.update ..)))⟩))
  exact ⟨_, Heap.get?_update_self _ ho2 (Obj.isFreed_of_fields (Obj.data_mapFields hd2 _)), (Obj.cls_mapFields ..).trans ((Obj.cls_mapFields ..).trans hci), by rw [Obj.data_mapFields hd2]; rfl⟩
/-- the order in which a set that is not drawn is walked -/
def ordOf (w : World) (a : Addr) (ep : Nat) (es : Array (Int × Value)) : Array (Int × Value) := if byT w then pickOrder (w.params.setOrder a ep) es else es
theorem ord_perm (w : World) (a : Addr) (ep : Nat) (es : Array (Int × Value)) : (ordOf w a ep es).toList.Perm es.toList := by
  unfold ordOf
  split
  · exact pick_perm _ _
  · exact List.Perm.refl _
theorem walk_G {a I : Addr} (hne : a ≠ I) {ep n : Nat} {o : Obj} {es : Array (Int × Value)} {t : SetTable} (hh : A.handled = none) (hd : o.data = .set es ep t) (hf : t.fits es.size = true) (hn : es.size = n) (ok : TabOk t) (hdr : byT w = true ∨ (!t.plain && decide (es.size > 1)) = false) (hled : t.led = !byT w) :
    Walks prog w A I [I, a] [I] n (fun i v => ∃ e, (ordOf w a ep es)[i]? = some e ∧ v = e.2) (fun i h => (∃ slot : Nat, (byT w = false → SetTable.below t.place slot = i) ∧ SIter h I a (.int slot 0) i n ep) ∧ h.get? a = some o) where
  sub := fun b hb => by simp at hb; simp [hb]
  frame := fun i h h' st hk => by
    obtain ⟨⟨slot, hb, oi, h1, h2⟩, h3⟩ := st
    exact ⟨⟨slot, hb, oi, hk I (by simp) _ h1, h2⟩, hk a (by simp) _ h3⟩
  item := fun i s Q E hi st hQ => by
    obtain ⟨⟨slot, hb, hit⟩, ho⟩ := st
    have keep : ∀ h', Heap.SameBut I s.heap h' → h'.get? a = some o := fun h' sb => by rw [sb.2 a hne]; exact ho
    have kept : ∀ h', Heap.SameBut I s.heap h' → ∀ b o, b ∉ [I] → s.heap.get? b = some o → h'.get? b = some o := fun h' sb b o hb e => by rw [sb.2 b (fun z => hb (by simp [z]))]; exact e
    have zo : (ordOf w a ep es).size = n := by rw [← hn, ← Array.length_toList, (ord_perm w a ep es).length_eq, Array.length_toList]
    have ex : (ordOf w a ep es)[i]? = some (ordOf w a ep es)[i] := Array.getElem?_eq_getElem (by omega)
    generalize (ordOf w a ep es)[i] = x at ex
    cases hbt : byT w with
    | true =>
      have ex' : (pickOrder (w.params.setOrder a ep) es)[i]? = some x := by unfold ordOf at ex; rw [hbt] at ex; exact ex
      exact next_textG hit ho hd hf hn hbt ex' fun h' it' sb => hQ x.2 h' s.toks ⟨x, ex, rfl⟩ ⟨⟨slot, fun z => absurd (hbt.symm.trans z) (by decide), it'⟩, keep h' sb⟩ (kept h' sb)
    | false =>
      have ex' : es[i]? = some x := by unfold ordOf at ex; rw [hbt] at ex; exact ex
      have hps : t.place.size = es.size := by
        simp only [SetTable.fits, Bool.and_eq_true, beq_iff_eq] at hf
        exact hf.1
      refine next_plain hit ho hd hf hn hbt (hdr.resolve_left (by rw [hbt]; decide)) (by rw [hled, hbt]; rfl) ex' (hb hbt) fun h' it' sb => hQ _ h' s.toks ⟨x, ex, rfl⟩ ⟨⟨t.place.getD i 0 + 1, fun _ => below_next ok.rise (by omega), it'⟩, keep h' sb⟩ (kept h' sb)
  done := fun s Q E st hQ => by
    obtain ⟨⟨slot, hb, hit⟩, ho⟩ := st
    refine stop_L (first := .none) hh hit ho hd hf hn (fun R hR => ?_) fun h' eb => hQ h' s.toks fun b o hb e => eb b o (fun z => hb (by simp [z])) e
    unfold setNext
    refine wpAny_bind (wpAny_setState_of ho hd hf ?_)
    dsimp only
    unfold setsByText
    refine wpAny_bind (wpAny_bind (wpAny_askSetting (wpAny_pure ?_)))
    cases hbt : byT w with
    | true =>
      refine wp_if hbt (wp_ifn (by simp) ?_)
      unfold setWalk
      refine wpAny_bind (wpAny_bind (wpAny_setState_of ho hd hf ?_))
      dsimp only
      unfold setsByText
      refine wpAny_bind (wpAny_bind (wpAny_askSetting (wpAny_pure ?_)))
      refine wp_if hbt ?_
      refine wpAny_bind (wpAny_askSetting (wpAny_pure ?_))
      obtain ⟨sz, _⟩ := pick_spec ((model prog w).w.params.setOrder a ep) es
      have hx : (pickOrder ((model prog w).w.params.setOrder a ep) es)[n]? = none := Array.getElem?_eq_none (by omega)
      simp only [Int.toNat_natCast]
      rw [hx]
      exact wpAny_pure hR
    | false =>
      have hdr' := hdr.resolve_left (by rw [hbt]; decide)
      refine wp_ifn (fun e => by have e2 : byT w = true := e; rw [hbt] at e2; cases e2) ?_
      refine wp_ifn (fun e => by have e2 : (!t.plain && decide (es.size > 1)) = true := e; rw [hdr'] at e2; cases e2) ?_
      refine wpAny_bind ?_
      show wpAny _ _ (if (!t.led && !es.isEmpty) = true then unsupported "set:maker-not-led" else pure ()) _ _ _
      refine wp_ifn (by rw [hled, hbt]; simp) (wpAny_pure ?_)
      simp only [Int.toNat_natCast, hb hbt]
      rw [Array.getElem?_eq_none (show es.size ≤ n by omega)]
      exact wpAny_pure hR
  self := fun i s Q E st hQ => by
    obtain ⟨⟨slot, hb, hit⟩, ho⟩ := st
    refine wpAny_pyIter_slot hit.typeIs slot_si_iter (wpAny_call_entry slot_si_iter hit.typeIs entry_si_iter ?_ (args_si_iter _))
    show wpAny _ _ (ret (.ref I)) _ _ s
    exact wpAny_pure ⟨_, rfl, "set_iterator", _, hit.typeIs, slot_si_next.lookup, hQ⟩
end
end L2

set_option Elab.async false
set_option linter.all false
set_option maxRecDepth 100000
set_option maxHeartbeats 4000000
namespace L2
open PySem PySem.Spec PyProof.Rows PySem.W
section
variable {prog : Program} {w : World} {A : Around} {E : Value → Shared → Prop} {s : Shared}
/-- the iterator of a set that is not drawn -/
theorem iter_G {a : Addr} {ep n : Nat} {o : Obj} {es : Array (Int × Value)} {t : SetTable} {Q : Value → Shared → Prop} (ho : s.heap.get? a = some o) (hc : o.cls = .type "set") (hd : o.data = .set es ep t) (hf : t.fits es.size = true) (hn : es.size = n) (hdr : byT w = true ∨ (!t.plain && decide (es.size > 1)) = false)
    (hQ : Q (.ref s.heap.objs.size) { s with heap := s.heap.push (oIter a n ep) }) : wpAny (model prog w) A (pyIter (.ref a)) Q E s := by
  have hT : s.TypeIs (.ref a) "set" := ⟨o, ho, hc⟩
  refine wpAny_pyIter_slot hT PySem.F.slot_set_iter (wpAny_call_entry PySem.F.slot_set_iter hT entry_set_iter ?_ (args_set_iter _))
  show wpAny _ _ (Builtin.Frozenset.sizeOf a >>= _) _ _ s
  unfold Builtin.Frozenset.sizeOf
  refine wpAny_bind (wpAny_bind (wpAny_setEntries_of ho hd hf (wpAny_pure ?_)))
  refine wpAny_bind ?_
  unfold setDrawn
  refine wpAny_bind (wpAny_setState_of ho hd hf ?_)
  dsimp only
  unfold setsByText
  refine wpAny_bind (wpAny_bind (wpAny_askSetting (wpAny_pure (wpAny_pure ?_))))
  refine wp_ifn (fun e => by
    have e2 : (!(byT w) && (!t.plain && decide (es.size > 1))) = true := e
    rcases hdr with h | h
    · rw [h] at e2; simp at e2
    · rw [h] at e2; simp at e2) (wpAny_bind (wpAny_pure ?_))
  unfold setEpoch
  refine wpAny_bind (wpAny_bind (wpAny_setState_of ho hd hf (wpAny_pure ?_)))
  unfold newFields
  refine wpAny_bind (wpAny_newObj_type (wpAny_pure ⟨_, rfl, "set_iterator", _, ⟨_, Heap.get?_push_size _ rfl, rfl⟩, slot_si_next.lookup, ?_⟩))
  rw [← hn] at hQ
  exact hQ
def oIterD (a tp : Addr) (n ep : Nat) : Obj := { cls := .type "set_iterator", data := .fields #[.ref tp, .int ((0 : Nat) : Int) 0, .ref a, .int n 0, .int ep 0] }
/-- the iterator of a set that is drawn -/
theorem iter_D {a : Addr} {ep n : Nat} {o : Obj} {es : Array (Int × Value)} {t : SetTable} {Q : Value → Shared → Prop} (ho : s.heap.get? a = some o) (hc : o.cls = .type "set") (hd : o.data = .set es ep t) (hf : t.fits es.size = true) (hn : es.size = n) (hz : n ≤ 5000) (hbt : byT w = false) (hdr : (!t.plain && decide (es.size > 1)) = true)
    (hQ : ∀ (ys : List Nat) (d' : Drawn), ys.Perm (List.range n) → Q (.ref (s.heap.objs.size + 1)) { s with heap := (s.heap.push (seqObj "tuple" (ys.map fun (i : Nat) => rawInt i).toArray 0)).push (oIterD a s.heap.objs.size n ep), drawn := d' }) : wpAny (model prog w) A (pyIter (.ref a)) Q E s := by
  have hT : s.TypeIs (.ref a) "set" := ⟨o, ho, hc⟩
  have szl := sizeLine_eq
  refine wpAny_pyIter_slot hT PySem.F.slot_set_iter (wpAny_call_entry PySem.F.slot_set_iter hT entry_set_iter ?_ (args_set_iter _))
  show wpAny _ _ (Builtin.Frozenset.sizeOf a >>= _) _ _ s
  unfold Builtin.Frozenset.sizeOf
  refine wpAny_bind (wpAny_bind (wpAny_setEntries_of ho hd hf (wpAny_pure ?_)))
  refine wpAny_bind ?_
  unfold setDrawn
  refine wpAny_bind (wpAny_setState_of ho hd hf ?_)
  dsimp only
  unfold setsByText
  refine wpAny_bind (wpAny_bind (wpAny_askSetting (wpAny_pure (wpAny_pure ?_))))
  refine wp_if (by
    show (!(byT w) && (!t.plain && decide (es.size > 1))) = true
    rw [hbt, hdr]; rfl) ?_
  rw [hn]
  refine wpAny_bind (draw_any n (List.range n) (by simp) fun ys d' hp => ?_)
  have hl : ys.length = n := by rw [hp.length_eq, List.length_range]
  refine wpAny_bind (wpAny_newTuple ?_ (by rw [List.length_map]; omega))
  have ho1 : (s.heap.push (seqObj "tuple" (ys.map fun (i : Nat) => rawInt i).toArray 0)).get? a = some o := Heap.get?_push_of_some _ ho
  unfold setEpoch
  refine wpAny_bind (wpAny_bind (wpAny_setState_of (s := { s with heap := s.heap.push (seqObj "tuple" (ys.map fun (i : Nat) => rawInt i).toArray 0), drawn := d' }) ho1 hd hf (wpAny_pure ?_)))
  unfold newFields
  refine wpAny_bind (wpAny_newObj_type (wpAny_pure ⟨_, rfl, "set_iterator", _, ⟨_, Heap.get?_push_size _ rfl, rfl⟩, slot_si_next.lookup, ?_⟩))
  have := hQ ys d' hp
  have z : (s.heap.push (seqObj "tuple" (ys.map fun (i : Nat) => rawInt i).toArray 0)).objs.size = s.heap.objs.size + 1 := size_push' _ _
  rw [← z] at this
  exact this
/-- the end of a drawn walk -/
theorem stop_D {it a tp : Addr} {i n ep nt : Nat} {o ot : Obj} {es : Array (Int × Value)} {t : SetTable} {places : Array Value} {Q : Option Value → Shared → Prop} (hh : A.handled = none) (hit : SIter s.heap it a (.ref tp) i n ep) (ho : s.heap.get? a = some o) (hd : o.data = .set es ep t) (hf : t.fits es.size = true) (hn : es.size = n)
    (hot : s.heap.get? tp = some ot) (hdt : ot.data = .seq places nt) (hp : places[i]? = none)
    (hQ : ∀ h', Heap.ExtBut it s.heap h' → Q none { s with heap := h' }) : wpAny (model prog w) A (pyNext (.ref it)) Q E s := by
  obtain ⟨oi, hoi, hci, hdi⟩ := id hit
  unfold pyNext
  refine wpAny_bind (wpAny_attempt (wpAny_callSpecial?_slot (name := Str.ofString "__next__") hit.typeIs slot_si_next (wpAny_call_entry slot_si_next hit.typeIs entry_si_next ?_ (args_si_next _))))
  show wpAny _ _ (fieldsOf (.ref it) >>= _) _ _ s
  refine wpAny_bind (wpAny_fieldsOf hoi hdi ?_)
  dsimp only
  refine wpAny_bind (wpAny_setEntries_of ho hd hf ?_)
  rw [hn]
  simp only [bne_self_eq_false, Bool.false_eq_true, if_false]
  refine wpAny_bind (wpAny_seqItems hot hdt ?_)
  simp only [Int.toNat_natCast, hp]
  refine wpAny_bind (wpAny_setField hoi hdi (by simp) ?_)
  have ho2 := Heap.get?_update_self (Obj.mapFields fun vs => vs.setIfInBounds 0 (rawInt 0)) hoi (Obj.isFreed_of_fields (Obj.data_mapFields hdi _))
  have hd2 : (Obj.mapFields (fun vs => vs.setIfInBounds 0 (rawInt 0)) oi).data = .fields #[rawInt 0, .int i 0, .ref a, .int n 0, .int ep 0] := by
    rw [Obj.data_mapFields hdi]
    rfl
  refine wpAny_bind (wpAny_setField ho2 hd2 (by simp) ?_)
  show wpAny _ _ (newExc (.type "StopIteration") [] >>= _) _ _ _
  refine wpAny_bind ?_
  simp only [newExc, newTuple]
  refine wpAny_bind (wpAny_newObj_type ?_ (by size_fits))
  refine wpAny_bind (m := firstArgMember _ _) (wpAny_of_eq (a := Value.none) (by first | rfl | (simp only [firstArgMember]; rfl)) ?_)
  refine wpAny_newObj_type ?_ (by size_fits)
  simp only [raiseNew]
  refine wpAny_bind (wpAny_handled ?_)
  rw [show A.in1.handled = none from hh]
  refine wpAny_bind (wpAny_pure (wpAny_throw ?_))
  refine wpAny_bind (wpAny_isInstance (T := "StopIteration") (b := true) ⟨_, Heap.get?_push_size _ rfl, rfl⟩ isSubtype_stop ?_)
  exact wpAny_pure (hQ _ ((((Heap.SameBut.update ..).trans (Heap.SameBut.update ..)).extBut.push _).push _))
def ordD (es : Array (Int × Value)) (ys : List Nat) : List (Int × Value) := ys.map fun j => es[j]?.getD (0, .none)
theorem range_ord (es : Array (Int × Value)) : ordD es (List.range es.size) = es.toList := by
  unfold ordD
  apply List.ext_getElem?
  intro k
  have e2 : es.toList[k]? = es[k]? := Array.getElem?_toList ..
  rw [List.getElem?_map, e2]
  by_cases h : k < es.size
  · rw [List.getElem?_range h, Array.getElem?_eq_getElem h]; simp [h]
  · rw [List.getElem?_eq_none (by simpa using h), Array.getElem?_eq_none (by omega)]; rfl
theorem ordD_perm {es : Array (Int × Value)} {ys : List Nat} (h : ys.Perm (List.range es.size)) : (ordD es ys).Perm es.toList := by
  rw [← range_ord es]
  exact h.map _
theorem walk_D {a tp I : Addr} (h1 : a ≠ I) (h2 : tp ≠ I) {ep n nt : Nat} {o ot : Obj} {es : Array (Int × Value)} {t : SetTable} {ys : List Nat} (hh : A.handled = none) (hd : o.data = .set es ep t) (hf : t.fits es.size = true) (hn : es.size = n) (hdt : ot.data = .seq (ys.map fun (i : Nat) => rawInt i).toArray nt) (hy : ys.Perm (List.range n)) :
    Walks prog w A I [I, a, tp] [I] n (fun i v => ∃ e, (ordD es ys)[i]? = some e ∧ v = e.2) (fun i h => SIter h I a (.ref tp) i n ep ∧ h.get? a = some o ∧ h.get? tp = some ot) where
  sub := fun b hb => by simp at hb; simp [hb]
  frame := fun i h h' st hk => by
    obtain ⟨⟨oi, q1, q2⟩, q3, q4⟩ := st
    exact ⟨⟨oi, hk I (by simp) _ q1, q2⟩, hk a (by simp) _ q3, hk tp (by simp) _ q4⟩
  item := fun i s Q E hi st hQ => by
    obtain ⟨hit, ho, hot⟩ := st
    have hl : ys.length = n := by rw [hy.length_eq, List.length_range]
    obtain ⟨p, hp⟩ : ∃ p, ys[i]? = some p := ⟨ys[i], List.getElem?_eq_getElem (by omega)⟩
    have hpn : p < n := by simpa using hy.mem_iff.mp (List.mem_of_getElem? hp)
    obtain ⟨x, hx⟩ : ∃ x, es[p]? = some x := ⟨es[p], Array.getElem?_eq_getElem (by omega)⟩
    refine next_drawn hit ho hd hf hn hot hdt (p := p) (x := x) ?_ hx fun h' it' sb => hQ x.2 h' s.toks ⟨x, ?_, rfl⟩ ⟨it', ?_, ?_⟩ fun b ob hb e => ?_
    · rw [List.getElem?_toArray, List.getElem?_map, hp]; rfl
    · unfold ordD; rw [List.getElem?_map, hp]; simp [hx]
    · rw [sb.2 a h1]; exact ho
    · rw [sb.2 tp h2]; exact hot
    · rw [sb.2 b (fun z => hb (by simp [z]))]; exact e
  done := fun s Q E st hQ => by
    obtain ⟨hit, ho, hot⟩ := st
    have hl : ys.length = n := by rw [hy.length_eq, List.length_range]
    exact stop_D hh hit ho hd hf hn hot hdt (by rw [List.getElem?_toArray]; exact List.getElem?_eq_none (by rw [List.length_map]; omega)) fun h' eb => hQ h' s.toks fun b o hb e => eb b o (fun z => hb (by simp [z])) e
  self := fun i s Q E st hQ => by
    obtain ⟨hit, ho⟩ := st
    refine wpAny_pyIter_slot hit.typeIs slot_si_iter (wpAny_call_entry slot_si_iter hit.typeIs entry_si_iter ?_ (args_si_iter _))
    show wpAny _ _ (ret (.ref I)) _ _ s
    exact wpAny_pure ⟨_, rfl, "set_iterator", _, hit.typeIs, slot_si_next.lookup, hQ⟩
end
end L2

set_option Elab.async false
set_option linter.all false
set_option maxRecDepth 100000
set_option maxHeartbeats 4000000
namespace L2
open PySem PySem.Spec PyProof.Rows PySem.W
section
variable {prog : Program} {w : World} {A : Around} {E : Value → Shared → Prop} {s : Shared}
/-- a list is lengthened by what an iterator gives, where the making of it may draw -/
theorem ext_G {R : Result → Shared → Prop} {T : String} {S r : Addr} {n : Nat} {OkP : (Nat → Value → Prop) → Prop} (hT : ∀ s' : Shared, (∀ b o, s.heap.get? b = some o → s'.heap.get? b = some o) → s'.TypeIs (.ref r) T) (nl : (Value.type T == Value.type "list") = false) (nt : (Value.type T == Value.type "tuple") = false)
    (hint : ∀ (E : Value → Shared → Prop) (s' : Shared) (Q : Bool → Shared → Prop), s'.TypeIs (.ref r) T → Q false s' → wpAny (model prog w) A.in1 (Builtin.List.listLengthHint (.ref r)) Q E s')
    (hS : s.heap.get? S = some { cls := .type "list", data := .seq #[] 0 }) (hSr : S ≠ r) (hn : n ≤ sizeLine)
    (hit : ∀ (E : Value → Shared → Prop) (Q : Value → Shared → Prop), (∀ I h1 d1 fp St P, OkP P → Walks prog w A.in1 I fp [I] n P St → St 0 h1 → S ∉ fp → s.heap.objs.size ≤ I → (∀ b o, s.heap.get? b = some o → h1.get? b = some o) → Q (.ref I) { s with heap := h1, drawn := d1 }) → wpAny (model prog w) A.in1 (pyIter (.ref r)) Q E s)
    (hR : ∀ P h' tk d' acc' c', OkP P → (∀ b o, b ≠ S → s.heap.get? b = some o → h'.get? b = some o) → h'.get? S = some { cls := .type "list", dict := none, data := .seq acc' c', slots := #[] } → ItemsOf P acc' n → R (.ok (.ret (.ref S))) { s with heap := h', toks := tk, drawn := d' }) :
    codeAny (model prog w) A (.builtin "list.__iadd__" ⟨[.ref S, .ref r], []⟩) R s := by
  refine codeAny_builtin entry_list_iadd' ?_
  rw [Around.under_plainId PySem.F.plain_list_iadd _]
  show wpAny _ _ (Builtin.List.listExtendWith (.ref S) (.ref r) (.ref S)) _ _ s
  unfold Builtin.List.listExtendWith
  refine wpAny_bind (wpAny_typeOf (hT s fun _ _ e => e) ?_)
  have e1 : Builtin.List.listSameRef (.ref S) (.ref r) = false := by simp [Builtin.List.listSameRef, hSr]
  simp only [e1, nl, nt, Bool.or_false, Bool.false_eq_true, if_false]
  refine wpAny_bind (hit _ _ fun I h1 d1 fp St P okP W st hSf hI k1 => ?_)
  have hSI : S ≠ I := fun z => Nat.lt_irrefl _ (Nat.lt_of_lt_of_le (Heap.lt_size hS) (by rw [z]; exact hI))
  have loop : ∀ (h : Heap) (c tk : Nat), St 0 h → (∀ b o, b ≠ S → h1.get? b = some o → h.get? b = some o) → h.get? S = some { cls := .type "list", data := .seq #[] c } →
      codeAny (model prog w) A (.builtin "list.extend.loop" ⟨[.ref S, .ref I, .ref S], []⟩) R { s with heap := h, toks := tk, drawn := d1 } := fun h c tk hst hk hS1 => by
    refine codeAny_extend_loopS W.toS hn S hSf (.ref S) n 0 _ #[] c rfl (Nat.zero_le _) hst hS1 (ItemsOf.nil _) fun s' acc' c' hm hS' hacc => ?_
    rw [Moved.eq_with hm]
    refine hR P s'.heap s'.toks d1 acc' c' okP (fun b o hb e => hm.heap b o (fun hmem => ?_) (hk b o hb (k1 b o e))) hS' hacc
    rcases List.mem_cons.mp hmem with z | z
    · exact hb z
    · rw [List.mem_singleton.mp z] at e
      exact Nat.lt_irrefl _ (Nat.lt_of_lt_of_le (Heap.lt_size e) hI)
  have hS1 := k1 S _ hS
  refine wpAny_bind (wpAny_holding (hint _ _ _ (hT _ k1) ?_))
  refine wpAny_ite_split (fun _ => ?_) (fun _ => wpAny_pure ⟨plainId_quiet PySem.F.plain_extend_loop _, loop h1 0 s.toks st (fun b o _ e => e) hS1⟩)
  refine wpAny_bind (wpAny_rule (wpAny_bind ?_))
  show wpAny _ _ (updateSeq S (·.push .none) >>= fun _ => updateSeq S (·.pop)) _ _ _
  refine wpAny_bind (wpAny_updateSeq hS1 rfl ?_)
  have hS2 := Heap.get?_update_self (Obj.mapSeq (·.push Value.none)) hS1 rfl
  refine wpAny_updateSeq (hz := by seq_fits) hS2 rfl ?_
  have hS3 := Heap.get?_update_self (Obj.mapSeq (·.pop)) hS2 rfl
  have oth : ∀ b o, b ≠ S → h1.get? b = some o → ((h1.update S (Obj.mapSeq (·.push Value.none))).update S (Obj.mapSeq (·.pop))).get? b = some o := fun b o hb e => by
    rw [Heap.get?_update_other _ _ (Ne.symm hb), Heap.get?_update_other _ _ (Ne.symm hb)]; exact e
  exact wpAny_pure ⟨plainId_quiet PySem.F.plain_extend_loop _, loop _ _ _ (W.frame 0 _ _ st fun b hb o e => oth b o (fun z => hSf (z ▸ hb)) e) oth hS3⟩
/-- a set's items collected -/
theorem collect_G {a : Addr} {ks : List Int} {Q : List Value → Shared → Prop} (hh : A.handled = none) (hS : SetG prog w s.heap a ks)
    (q : ∀ (vs : List Value) (ms : List Int) (g : Heap) (tk : Nat) (d' : Drawn), IntsAre vs ms → ms.Perm ks → (∀ b o, s.heap.get? b = some o → g.get? b = some o) → s.heap.objs.size < g.objs.size → Q vs { s with heap := g, toks := tk, drawn := d' }) :
    wpAny (model prog w) A (collect (.ref a)) Q E s := by
  have hlen := hS.len
  obtain ⟨o, es, ep, t, ho, hex, hd, hel, ⟨ms, hv, hp⟩, nd, hb, hf, ok, hled⟩ := hS
  have szl := sizeLine_eq
  have sb : scanBound = 4096 := rfl
  have hb' : es.size < 4096 := by rw [← sb]; exact hb
  unfold collect
  refine wpAny_bind (wpAny_runValue (codeAny_builtin entry_proto_collect' ?_))
  show wpAny _ _ (do again (.builtin "list.__iadd__" ⟨[← newList [], .ref a], []⟩)) _ _ s
  have hlt := Heap.lt_size ho
  have ne : s.heap.objs.size ≠ a := Nat.ne_of_gt hlt
  have ho1 : (s.heap.push (seqObj "list" #[] 0)).get? a = some o := Heap.get?_push_of_some _ ho
  have z1 : (s.heap.push (seqObj "list" #[] 0)).objs.size = s.heap.objs.size + 1 := size_push' _ _
  refine wpAny_bind (wpAny_newList (wpAny_pure ⟨Code.quiet_builtin _ (by decide +kernel), ?_⟩))
  have fin : ∀ (ord : List (Int × Value)), ord.Perm es.toList → ∀ h' tk d' acc' c', (∀ b ob, b ≠ s.heap.objs.size → (s.heap.push (seqObj "list" #[] 0)).get? b = some ob → h'.get? b = some ob) → h'.get? s.heap.objs.size = some { cls := .type "list", dict := none, data := .seq acc' c', slots := #[] } → ItemsOf (fun i v => ∃ e, ord[i]? = some e ∧ v = e.2) acc' es.size → Q acc'.toList { s with heap := h', toks := tk, drawn := d' } := fun ord po h' tk d' acc' c' k hS' hacc => by
    obtain ⟨sz, it⟩ := hacc
    have el : acc'.toList = ord.map (·.2) := by
      apply List.ext_getElem?
      intro j
      have ea : acc'.toList[j]? = acc'[j]? := Array.getElem?_toList ..
      rw [ea, List.getElem?_map]
      have lo : ord.length = es.size := by rw [po.length_eq, Array.length_toList]
      by_cases hj : j < es.size
      · have ev : acc'[j]? = some acc'[j] := Array.getElem?_eq_getElem (by omega)
        obtain ⟨e, h1, h2⟩ := it j _ ev
        rw [ev, h1, h2]; rfl
      · rw [Array.getElem?_eq_none (by omega), List.getElem?_eq_none (by omega)]; rfl
    obtain ⟨ns, n1, n2⟩ := vals_perm (po.map (·.2)) hv
    rw [← el] at n1
    refine q acc'.toList ns h' tk d' (intsAre_of n1) (n2.trans hp) (fun b ob e => k b ob (fun z => ?_) (Heap.get?_push_of_some _ e)) (Heap.lt_size hS')
    rw [z] at e
    exact absurd (Heap.lt_size e) (Nat.lt_irrefl _)
  by_cases hmode : byT w = true ∨ (!t.plain && decide (es.size > 1)) = false
  · refine ext_G (T := "set") (s := { s with heap := s.heap.push (seqObj "list" #[] 0) }) (n := es.size) (OkP := fun P => P = fun i v => ∃ e, (ordOf w a ep es)[i]? = some e ∧ v = e.2) (fun s' k => ⟨o, k a o ho1, hex.1⟩) (by decide) (by decide) (fun E s' Q hT h => hint_L hT h) (Heap.get?_push_size _ rfl) ne (by omega) (fun E Q hQ => ?_) fun P h' tk d' acc' c' okP k hS' hacc => ?_
    · refine iter_G ho1 hex.1 hd hf rfl hmode ?_
      refine hQ _ _ s.drawn [_, a] _ _ rfl (walk_G (A := A.in1) (Nat.ne_of_lt (Heap.lt_size ho1)) hh hd hf rfl ok hmode hled) ⟨⟨0, fun _ => below_zero ok.rise, _, Heap.get?_push_size _ rfl, rfl, rfl⟩, Heap.get?_push_of_some _ ho1⟩ ?_ (Nat.le_refl _) fun b ob e => Heap.get?_push_of_some _ e
      simp only [List.mem_cons, List.not_mem_nil, or_false, not_or]
      exact ⟨by show s.heap.objs.size ≠ (s.heap.push (seqObj "list" #[] 0)).objs.size; omega, ne⟩
    · subst okP
      show wpAny _ _ (load s.heap.objs.size >>= _) Q E _
      refine wpAny_bind (wpAny_load hS' (wpAny_pure ?_))
      exact fin _ (ord_perm w a ep es) h' tk d' acc' c' k hS' ⟨hacc.1, fun j v hj => by obtain ⟨e, h1, h2⟩ := hacc.2 j v hj; exact ⟨e, by rw [Array.getElem?_toList]; exact h1, h2⟩⟩
  · have hbt : byT w = false := by
      cases e : byT w with
      | false => rfl
      | true => exact absurd (.inl e) hmode
    have hdr : (!t.plain && decide (es.size > 1)) = true := by
      cases e : (!t.plain && decide (es.size > 1)) with
      | true => rfl
      | false => exact absurd (.inr e) hmode
    refine ext_G (T := "set") (s := { s with heap := s.heap.push (seqObj "list" #[] 0) }) (n := es.size) (OkP := fun P => ∃ ys : List Nat, ys.Perm (List.range es.size) ∧ P = fun i v => ∃ e, (ordD es ys)[i]? = some e ∧ v = e.2) (fun s' k => ⟨o, k a o ho1, hex.1⟩) (by decide) (by decide) (fun E s' Q hT h => hint_L hT h) (Heap.get?_push_size _ rfl) ne (by omega) (fun E Q hQ => ?_) fun P h' tk d' acc' c' okP k hS' hacc => ?_
    · refine iter_D ho1 hex.1 hd hf rfl (by omega) hbt hdr fun ys d' hy => ?_
      have ho2 := fun ob => Heap.get?_push_of_some ob (Heap.get?_push_of_some (seqObj "tuple" (ys.map fun (i : Nat) => rawInt i).toArray 0) ho1)
      have z2 : ((s.heap.push (seqObj "list" #[] 0)).push (seqObj "tuple" (ys.map fun (i : Nat) => rawInt i).toArray 0)).objs.size = s.heap.objs.size + 1 + 1 := by rw [size_push', z1]
      have z3 : (s.heap.push (seqObj "list" #[] 0)).objs.size + 1 = ((s.heap.push (seqObj "list" #[] 0)).push (seqObj "tuple" (ys.map fun (i : Nat) => rawInt i).toArray 0)).objs.size := by rw [z1, z2]
      have na : a ≠ (s.heap.push (seqObj "list" #[] 0)).objs.size + 1 := by rw [z1]; exact Nat.ne_of_lt (Nat.lt_trans hlt (Nat.lt_succ_of_lt (Nat.lt_succ_self _)))
      refine hQ _ _ d' [_, a, (s.heap.push (seqObj "list" #[] 0)).objs.size] _ _ ⟨ys, hy, rfl⟩ (walk_D (A := A.in1) (tp := (s.heap.push (seqObj "list" #[] 0)).objs.size) (ot := seqObj "tuple" (ys.map fun (i : Nat) => rawInt i).toArray 0) na (Nat.ne_of_lt (Nat.lt_succ_self _)) hh hd hf rfl rfl hy) ⟨⟨oIterD a (s.heap.push (seqObj "list" #[] 0)).objs.size es.size ep, ?_, rfl, rfl⟩, ho2 _, ?_⟩ ?_ (Nat.le_succ _) fun b ob e => Heap.get?_push_of_some _ (Heap.get?_push_of_some _ e)
      · show _ = some (oIterD a (s.heap.push (seqObj "list" #[] 0)).objs.size es.size ep)
        rw [z3]
        exact Heap.get?_push_size _ rfl
      · exact Heap.get?_push_of_some _ (Heap.get?_push_size _ rfl)
      · simp only [List.mem_cons, List.not_mem_nil, or_false, not_or]
        refine ⟨?_, ne, ?_⟩
        · show s.heap.objs.size ≠ (s.heap.push (seqObj "list" #[] 0)).objs.size + 1
          omega
        · show s.heap.objs.size ≠ (s.heap.push (seqObj "list" #[] 0)).objs.size
          omega
    · obtain ⟨ys, hy, rfl⟩ := okP
      show wpAny _ _ (load s.heap.objs.size >>= _) Q E _
      refine wpAny_bind (wpAny_load hS' (wpAny_pure ?_))
      exact fin _ (ordD_perm hy) h' tk d' acc' c' k hS' hacc
end
end L2

set_option Elab.async false
set_option linter.all false
set_option maxRecDepth 100000
set_option maxHeartbeats 4000000
namespace L2
open PySem PySem.Spec PyProof.Rows
section
variable {prog : Program} {w : World} {A : Around} {E : Value → Shared → Prop} {s : Shared}
end
end L2

set_option Elab.async false
set_option linter.all false
set_option maxRecDepth 100000
set_option maxHeartbeats 4000000
namespace L2
open PySem PySem.Spec PyProof.Rows
theorem bt_set : bootBuiltins "set" = some (.type "set") := by decide +kernel
section
variable {X : Cx}
end
end L2

set_option Elab.async false
set_option linter.all false
set_option maxRecDepth 100000
set_option maxHeartbeats 4000000
namespace L2
open PySem PySem.Spec PyProof.Rows PySem.W
theorem strict_of {ms : List Int} (h1 : ms.Pairwise (· ≤ ·)) (h2 : ms.Nodup) : ms.Pairwise (· < ·) :=
  List.Pairwise.imp₂ (fun a b hle hne => by omega) h1 h2
theorem strict_unique : ∀ {a b : List Int}, a.Pairwise (· < ·) → b.Pairwise (· < ·) → (∀ m, m ∈ a ↔ m ∈ b) → a = b
  | [], [], _, _, _ => rfl
  | [], y :: t, _, _, h => by have := (h y).mpr (List.mem_cons_self ..); cases this
  | x :: r, [], _, _, h => by have := (h x).mp (List.mem_cons_self ..); cases this
  | x :: r, y :: t, ha, hb, h => by
    have h1 := List.pairwise_cons.mp ha
    have h2 := List.pairwise_cons.mp hb
    have e : x = y := by
      rcases List.mem_cons.mp ((h x).mp (List.mem_cons_self ..)) with e | m1
      · exact e
      · rcases List.mem_cons.mp ((h y).mpr (List.mem_cons_self ..)) with e | m2
        · exact e.symm
        · have := h1.1 y m2; have := h2.1 x m1; omega
    subst e
    rw [strict_unique h1.2 h2.2 fun m => ?_]
    constructor
    · intro hm
      rcases List.mem_cons.mp ((h m).mp (List.mem_cons_of_mem _ hm)) with e | q
      · have := h1.1 m hm; omega
      · exact q
    · intro hm
      rcases List.mem_cons.mp ((h m).mpr (List.mem_cons_of_mem _ hm)) with e | q
      · have := h2.1 m hm; omega
      · exact q
section
variable {prog : Program} {w : World} {A : Around} {E : Value → Shared → Prop} {s : Shared}
/-- what sorted does behind the collecting -/
theorem sorted_tail {a : Addr} {C : List Int → Prop} {Q : Value → Shared → Prop} (hc : ∀ (Q2 : List Value → Shared → Prop) (E2 : Value → Shared → Prop), (∀ (vs : List Value) (ms : List Int) (g : Heap) (tk : Nat) (d' : Drawn), IntsAre vs ms → C ms → (∀ b o, s.heap.get? b = some o → g.get? b = some o) → s.heap.objs.size < g.objs.size → Q2 vs { s with heap := g, toks := tk, drawn := d' }) → wpAny (model prog w) A.in1 (collect (.ref a)) Q2 E2 s) (hz : ∀ ms, C ms → ms.length ≤ 900000)
    (h : ∀ (out : Array Value) (ms ms' : List Int) (g : Heap) (e tk : Nat) (d' : Drawn) (p : Addr), C ms → IntsAre out.toList ms' → ms'.Perm ms → ms'.Pairwise (· ≤ ·) → (∀ b o, s.heap.get? b = some o → g.get? b = some o) → s.heap.objs.size ≤ p → g.get? p = some (seqObj "list" out e) → Q (.ref p) { s with heap := g, toks := tk, drawn := d' }) :
    wpAny (model prog w) A (call (.builtin "sorted") [.ref a]) Q E s := by
  refine Calls.call_function_entry kind_sorted plain_sorted entry_sorted (args_sorted1 _) ?_
  unfold Builtin.«sorted»
  refine wpAny_bind (m := checkCount "sorted" 1 1 _) (wpAny_pure ?_)
  refine wpAny_bind (hc _ _ fun vs ms g1 tk d' hI hC k1 z1 => ?_)
  have hlen : vs.length = ms.length := by have := (vals_ints hI).length; rw [List.length_map] at this; exact this.symm
  have hlz := hz ms hC
  have szl := sizeLine_eq
  refine wpAny_bind (wpAny_newList ?_ (by omega))
  have gL : (g1.push (seqObj "list" vs.toArray 0)).get? g1.objs.size = some (seqObj "list" vs.toArray 0) := Heap.get?_push_size _ rfl
  refine wpAny_bind (wpAny_holding (wpAny_call_entry slot_list_sort ⟨_, gL, rfl⟩ entry_list_sort (sort_ints gL hI (by omega) fun out ns' a1 a2 a3 => ⟨_, rfl, ?_⟩) (args_list_sort _)))
  obtain ⟨e, at1⟩ := sortedHeap_at (out := out) gL
  have old : ∀ b o, s.heap.get? b = some o → (sortedHeap (g1.push (seqObj "list" vs.toArray 0)) g1.objs.size vs out).get? b = some o := fun b o hb => by
    have hlt : b < g1.objs.size := Heap.lt_size (k1 b o hb)
    rw [sortedHeap_old (Nat.ne_of_lt hlt) (by rw [size_push']; exact Nat.lt_succ_of_lt hlt), Heap.get?_push_ne _ _ _ (Nat.ne_of_lt hlt)]
    exact k1 b o hb
  exact wpAny_pure ⟨_, rfl, h out ms ns' _ e tk d' g1.objs.size hC a1 a2 a3 old (Nat.le_of_lt z1) at1⟩
end
section
variable {X : Cx}
theorem Inv.drew {pins : List (Addr × Obj)} {σ : St} {H : Hp} {s : Shared} (I : Inv X pins σ H s) (d' : Drawn) : Inv X pins σ H { s with drawn := d' } := ⟨I.ok, I.os, I.bare, I.base, I.loc, I.cell, I.free, I.freeC, I.pin, I.hok, I.len⟩
/-- sorted(set(e)), e a list of ints -/
def tSortSetG (ta : TE) : TE := fun σ H Q => ta σ H fun x H1 => ∃ (l : Addr) (ns : List Int), x = .ref l ∧ H1 l = some (.lst (ns.map V.int)) ∧ ns.length ≤ 4000 ∧
  ∀ (p : Addr) (ms : List Int) (H' : Hp), Same H1 H' → H' p = some (.lst (ms.map V.int)) → ms.Pairwise (· < ·) → (∀ m, m ∈ ms ↔ m ∈ ns) → Q (.ref p) H'
theorem ints_nth : ∀ {its : List Value} {ns : List Int}, Vals (ns.map V.int) its → ∀ (i : Nat) (v : Value), its[i]? = some v → ∃ k t, v = .int k t ∧ ns[i]? = some k
  | [], _, _, i, v, e => by simp at e
  | x :: r, [], h, _, _, _ => by cases h
  | x :: r, n :: ns, h, i, v, e => by
    cases h with
    | cons a b =>
      cases i with
      | zero =>
        obtain ⟨t, rfl⟩ := a
        simp at e
        exact ⟨n, t, e.symm, rfl⟩
      | succ i =>
        obtain ⟨k, t, e1, e2⟩ := ints_nth b i v (by simpa using e)
        exact ⟨k, t, e1, by simpa using e2⟩
theorem pe_sortSetG {a : Expr} {ta : TE} {p p2 p3 pos : Pos} (hc : X.calm = true) (ha : PE X a ta) (hms : X.mg "sorted" = none) (hmt : X.mg "set" = none)
    (hgs : Gl X "sorted" := by rfl) (hgt : Gl X "set" := by rfl) (hs : starEach [a] X.env = [(false, eval a X.env)] := by rfl)
    (hs2 : starEach [Expr.Call (.Name "set" p2) [a] [] p3] X.env = [(false, eval (Expr.Call (.Name "set" p2) [a] [] p3) X.env)] := by rfl) :
    PE X (.Call (.Name "sorted" p) [.Call (.Name "set" p2) [a] [] p3] [] pos) (tSortSetG ta) := by
  intro pins s σ H Q I h
  have hh : X.A.handled = none := I.ok.hd hc
  refine wpAny_Call_Name_kw (ld_blt I hgs hms bt_sorted ?_)
  refine PyProof.Rows.callWith_builtin1 ?_ hs2 rfl
  show wpAny _ _ (spliced ((false, eval (Expr.Call (.Name "set" p2) [a] [] p3) X.env) :: backTo pos [])) _ _ s
  refine Calls.spliced_cons ?_
  refine wpAny_Call_Name_kw (ld_blt I hgt hmt bt_set ?_)
  refine PyProof.Rows.callWith_type1 (thn ((pa_cons ha pa_nil hs) p3 pins s σ H (fun vs H1 => match vs with
    | [x] => ∃ (l : Addr) (ns : List Int), x = .ref l ∧ H1 l = some (.lst (ns.map V.int)) ∧ ns.length ≤ 4000 ∧
  ∀ (p : Addr) (ms : List Int) (H' : Hp), Same H1 H' → H' p = some (.lst (ms.map V.int)) → ms.Pairwise (· < ·) → (∀ m, m ∈ ms ↔ m ∈ ns) → Q (.ref p) H'
    | _ => False) I h) fun us s1 ⟨vs, H1, I1, r1, q0⟩ => ?_) hs rfl
  obtain ⟨x, rfl, l, ns, rfl, hl, h4, q⟩ : ∃ x, vs = [x] ∧ ∃ (l : Addr) (ns : List Int), x = .ref l ∧ H1 l = some (.lst (ns.map V.int)) ∧ ns.length ≤ 4000 ∧
      ∀ (p : Addr) (ms : List Int) (H' : Hp), Same H1 H' → H' p = some (.lst (ms.map V.int)) → ms.Pairwise (· < ·) → (∀ m, m ∈ ms ↔ m ∈ ns) → Q (.ref p) H' := by
    match vs, q0 with
    | [x], q0 => exact ⟨x, rfl, q0⟩
  obtain ⟨u, rfl, ru⟩ := vals1 r1
  cases ru
  obtain ⟨its, rv, pl, hz⟩ := I1.list (SqL.of hl)
  have len := rv.length
  rw [List.length_map] at len
  refine set_G hh pl.isList (fun i v e => ints_nth rv i v (by simpa using e)) (by show its.length < 4095; omega) (by show ns.length = its.length; omega) fun h' tk hS hk => ?_
  refine Calls.spliced_nil ?_
  have I2 : Inv X pins σ H1 { s1 with heap := h', toks := tk } := I1.kept (fun b o e => hk b o (Heap.lt_size e) e)
  have hnd : (ddI ns).Nodup := by
    obtain ⟨_, _, _, _, _, _, _, _, _, nd, _⟩ := hS
    exact nd
  have hdl := ddI_len ns
  refine sorted_tail (C := fun ms => ms.Perm (ddI ns)) (fun Q2 E2 hq => collect_G hh hS hq) (fun ms hp => by have := hp.length_eq; omega) fun out ms ms' g e tk2 d' pp hC a1 a2 a3 k1 hp at1 => ?_
  have hf : H1 pp = none := I2.hok.fresh hp
  have hpm := a2.trans hC
  have l2 := hpm.length_eq
  have I3 : Inv X pins σ (upd H1 pp (.lst (ms'.map V.int))) { s1 with heap := g, toks := tk2 } := I2.laid (t' := tk2) k1 hp ⟨by rw [List.length_map, sizeLine_eq]; omega, out.toList, e, vals_ints a1, at1⟩
  refine ⟨.ref pp, upd H1 pp (.lst (ms'.map V.int)), I3.drew d', rfl, q _ ms' _ (fun b o e => by rw [upd_ne (ne_of_none e hf)]; exact e) upd_same (strict_of a3 (hpm.nodup_iff.mpr hnd)) fun m => ?_⟩
  rw [hpm.mem_iff, ddI_mem]
end
end L2

set_option Elab.async false
set_option linter.all false
set_option maxRecDepth 100000
set_option maxHeartbeats 1000000
namespace L2
open PySem PySem.Spec PyProof.Rows PySem.W
section
variable {prog : Program} {w : World} {A : Around} {E : Value → Shared → Prop} {s : Shared}
/-- a dict's keys collected, ints all -/
theorem collect_D {a : Addr} {vs : List (Key × Value)} {ks : List Int} {Q : List Value → Shared → Prop} (hh : A.handled = none) (hsys : (a == sysModules) = false) (hd : s.heap.DictOf (mixKind prog w) a vs) (hk : vs.map (·.1) = ks.map Sum.inl) (hz : vs.length ≤ 900000)
    (q : ∀ (us : List Value) (ms : List Int) (g : Heap) (tk : Nat) (d' : Drawn), IntsAre us ms → ms.Perm ks → (∀ b o, s.heap.get? b = some o → g.get? b = some o) → s.heap.objs.size < g.objs.size → Q us { s with heap := g, toks := tk, drawn := d' }) :
    wpAny (model prog w) A (collect (.ref a)) Q E s := by
  obtain ⟨o, es, ep, ho, rest⟩ := hd
  have szl := sizeLine_eq
  unfold collect
  refine wpAny_bind (wpAny_runValue (codeAny_builtin entry_proto_collect' ?_))
  show wpAny _ _ (do again (.builtin "list.__iadd__" ⟨[← newList [], .ref a], []⟩)) _ _ s
  have ne : s.heap.objs.size ≠ a := Nat.ne_of_gt (Heap.lt_size ho)
  refine wpAny_bind (wpAny_newList (wpAny_pure ⟨Code.quiet_builtin _ (by decide +kernel), iadd_L (s := { s with heap := s.heap.push (seqObj "list" #[] 0) }) (kdl_dict (knd := mixKind prog w) (kvs := vs) (ep := ep) hsys) hh ⟨o, es, Heap.get?_push_of_some _ ho, rest⟩ ne ne (Heap.get?_push_size _ rfl) (by omega) fun h' tk acc' c' k hS' hacc => ?_⟩))
  show wpAny _ _ (load s.heap.objs.size >>= _) Q E _
  refine wpAny_bind (wpAny_load hS' (wpAny_pure ?_))
  obtain ⟨sz, it⟩ := hacc
  have hl : vs.length = ks.length := by have := congrArg List.length hk; simpa using this
  have v1 : ∀ (n : Nat), n ≤ ks.length → Vals ((ks.take n).map V.int) (acc'.toList.take n) := by
    intro n
    induction n with
    | zero => intro _; rw [List.take_zero, List.take_zero]; exact .nil
    | succ n ih =>
      intro hn
      have en : acc'[n]? = some acc'[n] := Array.getElem?_eq_getElem (by omega)
      obtain ⟨ky, x, e1, e2⟩ := it n _ en
      obtain ⟨kn, hkn⟩ : ∃ kn, ks[n]? = some kn := ⟨ks[n], List.getElem?_eq_getElem (by omega)⟩
      have e3 : (vs.map (·.1))[n]? = (ks.map Sum.inl)[n]? := by rw [hk]
      rw [List.getElem?_map, List.getElem?_map, e1, hkn] at e3
      have e4 : ky = Sum.inl kn := by simpa using e3
      subst e4
      have r := key_rel (k := Sum.inl kn) e2
      have en' : acc'.toList[n]? = some acc'[n] := by rw [Array.getElem?_toList]; exact en
      rw [List.take_add_one, List.take_add_one, hkn, en', List.map_append]
      exact vals_append (ih (by omega)) (.cons r .nil)
  have v2 := v1 ks.length (Nat.le_refl _)
  have al : acc'.toList.length = ks.length := by rw [Array.length_toList]; omega
  rw [List.take_length, List.take_of_length_le (by omega)] at v2
  refine q acc'.toList ks h' tk s.drawn (intsAre_of v2) (List.Perm.refl _) (fun b ob e => k b ob (fun z => ?_) (Heap.get?_push_of_some _ e)) (Heap.lt_size hS')
  rw [z] at e
  exact absurd (Heap.lt_size e) (Nat.lt_irrefl _)
end
section
variable {X : Cx}
theorem call_sortDk (hc : X.calm = true) : CallR X (.builtin "sorted") (fun xs H Q => ∃ (d : Addr) (kvs : List (Key × V)) (ks : List Int), xs = [.ref d] ∧ Rd H d (.dK kvs) ∧ kvs.map (·.1) = ks.map Sum.inl ∧ kvs.length ≤ 900000 ∧
    ∀ (p : Addr) (ms : List Int) (H' : Hp), Same H H' → H' p = some (.lst (ms.map V.int)) → ms.Pairwise (· < ·) → (∀ m, m ∈ ms ↔ m ∈ ks) → Q (.ref p) H') := by
  intro pins s σ H xs us Q I r h
  obtain ⟨d, kvs, ks, rfl, rd, hk, hz, q⟩ := h
  obtain ⟨u, rfl, rx⟩ := vals1 r
  cases rx
  obtain ⟨z, hsys, vs, rel, dd⟩ := dk_rd I.hok rd
  have hk' : vs.map (·.1) = ks.map Sum.inl := by rw [← rel.keys]; exact hk
  have hl : kvs.length = vs.length := rel.length
  have hkl : vs.length = ks.length := by have := congrArg List.length hk'; simpa using this
  have hnd : ks.Nodup := by
    obtain ⟨_, _, _, _, _, _, _, _, nd⟩ := dd
    rw [hk'] at nd
    exact (List.pairwise_map.mp nd).imp fun hne z => hne (by rw [z])
  refine sorted_tail (C := fun ms => ms.Perm ks) (fun Q2 E2 hq => collect_D (I.ok.hd hc) hsys dd hk' (by omega) hq) (fun ms hp => by have := hp.length_eq; omega) fun out ms ms' g e tk2 d' pp hC a1 a2 a3 k1 hp at1 => ?_
  have hf : H pp = none := I.hok.fresh hp
  have hpm := a2.trans hC
  have l2 := hpm.length_eq
  have I3 : Inv X pins σ (upd H pp (.lst (ms'.map V.int))) { s with heap := g, toks := tk2 } := I.laid (t' := tk2) k1 hp ⟨by rw [List.length_map, sizeLine_eq]; omega, out.toList, e, vals_ints a1, at1⟩
  refine ⟨.ref pp, upd H pp (.lst (ms'.map V.int)), I3.drew d', rfl, q _ ms' _ (fun b o e => by rw [upd_ne (ne_of_none e hf)]; exact e) upd_same (strict_of a3 (hpm.nodup_iff.mpr hnd)) fun m => hpm.mem_iff⟩
end
end L2

set_option Elab.async false
set_option linter.all false
set_option maxRecDepth 100000
set_option maxHeartbeats 1000000
namespace HT
open PySem PySem.Spec PyProof.Rows
/-! t[:0:-1] -/
theorem adj_rev0 {n : Nat} (hn : 1 ≤ n) : Builtin.Slice.sliceAdjust none (some 0) (-1) (n : Int) = ((n : Int) - 1, 0) := by
  unfold Builtin.Slice.sliceAdjust
  have h : min (0 : Int) ((n : Int) - 1) = 0 := by omega
  simp [h]
theorem places_rev0 {n : Nat} (hn : 1 ≤ n) : Builtin.Slice.slicePlaces ((n : Int) - 1) 0 (-1) = n - 1 := by
  unfold Builtin.Slice.slicePlaces
  simp
  omega
theorem pick_rev0 (x : Value) (xs : List Value) : ((List.range xs.length).filterMap fun (m : Nat) => (x :: xs).toArray[((((xs.length + 1 : Nat) : Int) - 1) + (m : Int) * (-1)).toNat]?).toArray = xs.reverse.toArray := by
  have e := pick_gen xs.reverse.toArray 0 xs.length
  have e2 : (xs.reverse.toArray.toList.drop 0).take xs.length = xs.reverse := by
    show (xs.reverse.drop 0).take xs.length = xs.reverse
    rw [List.drop_zero, ← List.length_reverse, List.take_length]
  rw [e2] at e
  rw [← e]
  refine congrArg List.toArray (fm_congr fun m hm => ?_)
  have hm' : m < xs.length := List.mem_range.mp hm
  rw [show ((((xs.length + 1 : Nat) : Int) - 1) + (m : Int) * (-1)).toNat = (xs.length - 1 - m) + 1 by omega, show ((((0 : Nat) : Int)) + (m : Int) * 1).toNat = m by omega]
  rw [List.getElem?_toArray, List.getElem?_toArray, List.getElem?_cons_succ, List.getElem?_reverse hm']
section
variable {prog : Program} {w : World} {A : Around} {E : Value → Shared → Prop} {s : Shared}
theorem sliceApplied_rev0 {sl : Addr} {vu vs : Value} {n : Nat} {Q : Int × Int × Nat → Shared → Prop} (hn : 1 ≤ n) (hs : s.heap.IsSliceOf sl .none vu vs) (pu : IsPart vu (some 0)) (pv : IsPart vs (some (-1))) (h : Q ((n : Int) - 1, -1, n - 1) s) : wpAny (model prog w) A (Builtin.Slice.sliceApplied (.ref sl) (pure (n : Int))) Q E s := by
  obtain ⟨os, hos, hcs, hds⟩ := id hs
  unfold Builtin.Slice.sliceApplied Builtin.Slice.sliceFields
  refine wpAny_bind (wpAny_bind (wpAny_field hos hds (x := .none) rfl (wpAny_bind (wpAny_field hos hds (x := vu) rfl (wpAny_bind (wpAny_field hos hds (x := vs) rfl (wpAny_pure ?_)))))))
  refine wpAny_bind (slicePart_ pv ?_)
  show wpAny _ _ (if ((-1 : Int) == 0) = true then _ else _) _ _ s
  rw [if_neg (by decide)]
  refine wpAny_bind (slicePart_none (wpAny_bind (slicePart_ pu (wpAny_bind (wpAny_pure ?_)))))
  show wpAny _ _ (match Builtin.Slice.sliceAdjust none (some 0) (-1) (n : Int) with | (lo, hi) => pure (lo, (-1 : Int), Builtin.Slice.slicePlaces lo hi (-1))) _ _ s
  rw [adj_rev0 hn]
  show wpAny _ _ (pure ((n : Int) - 1, (-1 : Int), Builtin.Slice.slicePlaces ((n : Int) - 1) 0 (-1))) _ _ s
  rw [places_rev0 hn]
  exact wpAny_pure h
theorem getItem_tuple_rev0 {t sl : Addr} {u0 : Value} {us : List Value} {vu vs : Value} {Q : Value → Shared → Prop} (ht : IsTup s.heap t (u0 :: us).toArray) (hs : s.heap.IsSliceOf sl .none vu vs) (pu : IsPart vu (some 0)) (pv : IsPart vs (some (-1)))
    (h : Q (.ref s.heap.objs.size) { s with heap := s.heap.push { cls := .type "tuple", data := .seq us.reverse.toArray } }) (hsz : us.length ≤ sizeLine) : wpAny (model prog w) A (getItem (.ref t) (.ref sl)) Q E s := by
  obtain ⟨os, hos, hcs, hds⟩ := id hs
  have hTs : s.TypeIs (.ref sl) "slice" := ⟨os, hos, hcs⟩
  unfold getItem
  try with_reducible refine wpAny_holding ?_
  first | refine wpAny_bind (wpAny_pure ?_) | skip
  refine wpAny_bind (wpAny_sequenceKey ht.typeIs (by decide) ?_)
  refine wpAny_bind (wpAny_callSpecial?_slot (name := Str.ofString "__getitem__") ht.typeIs PyProof.Rows.slot_tuple_getitem
    (wpAny_call_entry PyProof.Rows.slot_tuple_getitem ht.typeIs entry_tuple_getitem ?_ (args_tuple_getitem _ _)))
  show wpAny _ _ (Builtin.Tuple.tupleItemsOf (.ref t) >>= _) _ _ s
  refine wpAny_bind (tupleItemsOf_ ht ?_)
  refine wpAny_bind (wpAny_typeOf hTs ?_)
  rw [if_pos (by decide)]
  rw [show (u0 :: us).toArray.size = us.length + 1 from List.size_toArray ..]
  refine wpAny_bind (sliceApplied_rev0 (n := us.length + 1) (by omega) hs pu pv ?_)
  rw [Nat.add_sub_cancel]
  show wpAny _ _ (if ((((us.length + 1 : Nat) : Int) - 1) == 0 && (-1 : Int) == 1 && us.length == us.length + 1) = true then _ else _) _ _ s
  rw [if_neg (by simp), pick_rev0]
  have hk : sizeOk (.seq us.reverse.toArray) := by show us.reverse.toArray.size ≤ sizeLine; rw [List.size_toArray, List.length_reverse]; exact hsz
  first
    | exact wpAny_bind (m := Builtin.Tuple.tupleExact _) (wpAny_newObj_type (wpAny_pure ⟨_, rfl, wpAny_pure h⟩) hk)
    | exact wpAny_bind (m := Builtin.Tuple.tupleExact _) (wpAny_newObj_type (wpAny_bind (wpAny_pure (wpAny_pure ⟨_, rfl, wpAny_pure h⟩))) hk)
    | exact wpAny_bind (wpAny_bind (m := Builtin.Tuple.tupleExact _) (wpAny_newObj_type (wpAny_pure (wpAny_pure ⟨_, rfl, wpAny_pure h⟩)) hk))
    | exact wpAny_bind (wpAny_bind (m := Builtin.Tuple.tupleExact _) (wpAny_newObj_type (wpAny_pure ⟨_, rfl, wpAny_pure h⟩) hk))
end
end HT
namespace L2
open PySem PySem.Spec PyProof.Rows
variable {X : Cx}
/-- t[:0:-1] of a tuple that is not empty -/
theorem pe_revT0 {e : Expr} {te : TE} {j j0} {p0 p2 p3 p4 pos : Pos} (he : PE X e te) : PE X (.Subscript e (.Slice none (some (.Constant (.int 0) j0 p0)) (some (.UnaryOp .USub (.Constant (.int 1) j p3) p4)) p2) pos) (fun σ H Q => te σ H fun x H1 => ∃ a x0 xs, x = .ref a ∧ SqT X.K H1 a (x0 :: xs) ∧ ∀ p, H1 p = none → Q (.ref p) (upd H1 p (.tup xs.reverse))) := by
  intro pins s σ H Q I h
  refine Subscript_ (thn (he pins s σ H _ I h) fun v s1 ⟨x, H1, I1, r1, q1⟩ => ?_)
  obtain ⟨a, x0, xs, rfl, hx, q⟩ := q1
  obtain rfl : v = Value.ref a := r1
  refine wpAny_Slice ?_
  rw [evalPart_none]
  refine wpAny_pure ?_
  refine thn (po_some (X := X) pe_int pins s1 σ H1 (fun o H' => o = some 0 ∧ H' = H1) I1 ⟨0, rfl, rfl, rfl⟩) fun vu s3 ⟨o3, H3, I3, ip3, eo3, eH3⟩ => ?_
  subst eo3 eH3
  refine thn (po_some (X := X) (pe_un un_neg pe_int) pins s3 σ H3 (fun o H' => o = some (-1) ∧ H' = H3) I3 ⟨1, rfl, -1, rfl, rfl, rfl⟩) fun vs s2 ⟨o, H2, I2, ip, eo, eH⟩ => ?_
  subst eo eH
  obtain ⟨its, r, ht, hz⟩ := I2.tuple hx
  have I4 : Inv X pins σ H2 { s2 with heap := s2.heap.push { cls := .type "slice", data := .fields #[.none, vu, vs] } } := I2.kept (t' := s2.toks) fun b ob q => Heap.get?_push_of_some _ q
  obtain ⟨its4, r4, ht4, hz4⟩ := I4.tuple hx
  obtain ⟨u0, us4, rfl, ru0, rus⟩ : ∃ u0 us, its4 = u0 :: us ∧ RelV x0 u0 ∧ Vals xs us := by
    cases r4 with
    | cons a b => exact ⟨_, _, rfl, a, b⟩
  have hlen := rus.length
  have hz' : xs.length + 1 ≤ sizeLine := hz4
  refine tail_any (ops := [.ref a, .ref s2.heap.objs.size]) ht4.typeIs PyProof.Rows.slot_tuple_getitem.lookup ?_ (by with_unfolding_all rfl)
  refine HT.getItem_tuple_rev0 ht4 (Heap.IsSliceOf.new ..) ip3 ip ?_ (by omega)
  refine ⟨.ref _, _, I4.laid (t' := s2.toks) (o := .tup xs.reverse) (fun b ob q => Heap.get?_push_of_some _ q) (Nat.le_refl _) ?_, rfl, q _ (I4.hok.fresh (Nat.le_refl _))⟩
  exact ⟨by rw [List.length_reverse]; omega, us4.reverse, rus.reverse, IsTup.new _ _⟩
end L2

set_option Elab.async false
set_option linter.all false
set_option maxRecDepth 100000
set_option maxHeartbeats 1000000
namespace Law
open PySem L2
/-! plus and less alone: counting from the end -/
abbrev Ps := List (Int × Int)
def look : Ps → Int → Int
  | [], _ => 0
  | (k, v) :: r, c => if k = c then v else look r c
def keysP (ps : Ps) : List Int := ps.map (·.1)
theorem look_absent : ∀ {ps : Ps} {c : Int}, c ∉ keysP ps → look ps c = 0
  | [], _, _ => rfl
  | (k, v) :: r, c, h => by
    unfold look
    rw [if_neg (fun z => h (by rw [← z]; exact List.mem_cons_self ..))]
    exact look_absent fun z => h (List.mem_cons_of_mem _ z)
def putI (ps : Ps) (k v : Int) : Ps := if k ∈ keysP ps then ps.map fun p => if p.1 = k then (p.1, v) else p else ps ++ [(k, v)]
theorem keys_map (k v : Int) : ∀ ps : Ps, keysP (ps.map fun p => if p.1 = k then (p.1, v) else p) = keysP ps
  | [] => rfl
  | p :: r => by
    show (if p.1 = k then (p.1, v) else p).1 :: keysP (r.map fun p => if p.1 = k then (p.1, v) else p) = p.1 :: keysP r
    rw [keys_map k v r]
    split <;> rfl
theorem look_map (k v c : Int) : ∀ ps : Ps, k ∈ keysP ps → look (ps.map fun p => if p.1 = k then (p.1, v) else p) c = if c = k then v else look ps c
  | [], h => by cases h
  | (a, b) :: r, h => by
    rw [List.map_cons]
    by_cases e : a = k
    · subst e
      rw [if_pos rfl]
      unfold look
      by_cases ec : a = c
      · rw [if_pos ec, if_pos ec.symm]
      · rw [if_neg ec, if_neg (Ne.symm ec)]
        by_cases hm : a ∈ keysP r
        · rw [look_map a v c r hm, if_neg (Ne.symm ec), if_neg ec]
        · have e2 : (r.map fun p => if p.1 = a then (p.1, v) else p) = r := by
            conv => rhs; rw [← List.map_id r]
            apply List.map_congr_left
            intro p hp
            rw [if_neg (fun z => hm (by rw [← z]; exact List.mem_map.mpr ⟨p, hp, rfl⟩))]
            rfl
          rw [e2, if_neg ec]
    · rw [if_neg e]
      have hm : k ∈ keysP r := by
        rcases List.mem_cons.mp h with z | z
        · exact absurd z.symm e
        · exact z
      unfold look
      rw [look_map k v c r hm]
      by_cases ec : a = c
      · rw [if_pos ec, if_pos ec, if_neg (fun z => e (ec.trans z))]
      · rw [if_neg ec, if_neg ec]
theorem look_app (k v c : Int) : ∀ ps : Ps, k ∉ keysP ps → look (ps ++ [(k, v)]) c = if c = k then v else look ps c
  | [], _ => by
    show (if k = c then v else 0) = if c = k then v else 0
    by_cases e : k = c
    · rw [if_pos e, if_pos e.symm]
    · rw [if_neg e, if_neg (Ne.symm e)]
  | (a, b) :: r, h => by
    have hm : k ∉ keysP r := fun z => h (List.mem_cons_of_mem _ z)
    have ha : a ≠ k := fun z => h (by rw [← z]; exact List.mem_cons_self ..)
    show (if a = c then b else look (r ++ [(k, v)]) c) = if c = k then v else if a = c then b else look r c
    rw [look_app k v c r hm]
    by_cases e : a = c
    · rw [if_pos e, if_pos e, if_neg (fun z => ha (e.trans z))]
    · rw [if_neg e, if_neg e]
theorem look_put (ps : Ps) (k v c : Int) : look (putI ps k v) c = if c = k then v else look ps c := by
  unfold putI
  split
  · rename_i h; exact look_map k v c ps h
  · rename_i h; exact look_app k v c ps h
theorem keys_put (ps : Ps) (k v : Int) : keysP (putI ps k v) = if k ∈ keysP ps then keysP ps else keysP ps ++ [k] := by
  unfold putI
  split
  · exact keys_map k v ps
  · unfold keysP; rw [List.map_append]; rfl
theorem mem_put {ps : Ps} {k v c : Int} : c ∈ keysP (putI ps k v) ↔ c ∈ keysP ps ∨ c = k := by
  rw [keys_put]
  split
  · rename_i h
    exact ⟨.inl, fun z => z.elim id fun e => e ▸ h⟩
  · rw [List.mem_append, List.mem_singleton]
theorem nodup_put {ps : Ps} {k v : Int} (h : (keysP ps).Nodup) : (keysP (putI ps k v)).Nodup := by
  rw [keys_put]
  split
  · exact h
  · rename_i c
    exact List.nodup_append.mpr ⟨h, by simp, fun a ha b hb => by rw [List.mem_singleton.mp hb]; exact fun z => c (z ▸ ha)⟩
theorem put_len (ps : Ps) (k v : Int) : (putI ps k v).length ≤ ps.length + 1 := by
  unfold putI
  split
  · rw [List.length_map]; omega
  · rw [List.length_append]; exact Nat.le_refl _
/-- as it lies in a dict -/
def kvI (p : Int × Int) : Key × V := (Sum.inl p.1, .int p.2)
theorem put_kv (ps : Ps) (k v : Int) : putK (ps.map kvI) (Sum.inl k) (.int v) = (putI ps k v).map kvI := by
  unfold putK putI
  have e : ((ps.map kvI).any fun kv => decide (kv.1 = (Sum.inl k : Key))) = decide (k ∈ keysP ps) := by
    rw [List.any_map]
    by_cases h : k ∈ keysP ps
    · rw [decide_eq_true h]
      obtain ⟨p, hp, e⟩ := List.mem_map.mp h
      exact List.any_eq_true.mpr ⟨p, hp, by show decide ((Sum.inl p.1 : Key) = Sum.inl k) = true; rw [e]; simp⟩
    · rw [decide_eq_false h]
      refine List.any_eq_false.mpr fun p hp => ?_
      show ¬ decide ((Sum.inl p.1 : Key) = Sum.inl k) = true
      intro z
      have := of_decide_eq_true z
      cases this
      exact h (List.mem_map.mpr ⟨p, hp, rfl⟩)
  rw [e]
  by_cases h : k ∈ keysP ps
  · rw [if_pos h, if_pos (decide_eq_true h), List.map_map, List.map_map]
    apply List.map_congr_left
    intro p _
    show (if (Sum.inl p.1 : Key) = Sum.inl k then (Sum.inl p.1, V.int v) else (Sum.inl p.1, V.int p.2)) = kvI (if p.1 = k then (p.1, v) else p)
    by_cases e2 : p.1 = k
    · rw [if_pos (by rw [e2]), if_pos e2]; rfl
    · rw [if_neg (fun z => e2 (by cases z; rfl)), if_neg e2]; rfl
  · rw [if_neg h, if_neg (by simpa using h), List.map_append]; rfl
theorem val_kv (c : Int) : ∀ ps : Ps, (valV (ps.map kvI) (Sum.inl c)).getD (.int 0) = .int (look ps c)
  | [] => rfl
  | (k, v) :: r => by
    rw [List.map_cons]
    unfold look
    by_cases e : k = c
    · rw [valV_pos (by show (Sum.inl k : Key) = Sum.inl c; rw [e]), if_pos e]; rfl
    · rw [valV_neg (by show ¬ (Sum.inl k : Key) = Sum.inl c; intro z; cases z; exact e rfl), if_neg e]
      exact val_kv c r
end Law

set_option Elab.async false
set_option linter.all false
set_option maxRecDepth 100000
set_option maxHeartbeats 1000000
namespace Law
open PySem L2
def stepA (n : Int) (ps : Ps) (p : Int × Int) (sd : Int) : Ps := putI ps (p.1 + sd * n) (look ps (p.1 + sd * n) + p.2)
def stepE (n : Int) (ps : Ps) (p : Int × Int) : Ps := stepA n (stepA n ps p 1) p (-1)
def either (n : Int) (ps : Ps) : Ps := ps.foldl (stepE n) []
theorem look_step (n : Int) (ps : Ps) (c v s : Int) : look (stepE n ps (c, v)) s = look ps s + (if s = c + n then v else 0) + (if s = c - n then v else 0) := by
  unfold stepE stepA
  have e1 : c + 1 * n = c + n := by omega
  have e2 : c + -1 * n = c - n := by omega
  dsimp only
  rw [e1, e2, look_put, look_put, look_put]
  by_cases h1 : s = c - n
  · subst h1
    rw [if_pos rfl, if_pos rfl]
    by_cases h2 : c - n = c + n
    · rw [if_pos h2, if_pos h2, h2]
    · rw [if_neg h2, if_neg h2]; omega
  · rw [if_neg h1, if_neg h1]
    by_cases h2 : s = c + n
    · subst h2; rw [if_pos rfl, if_pos rfl]; omega
    · rw [if_neg h2, if_neg h2]; omega
def tot (n : Int) : Ps → Int → Int
  | [], _ => 0
  | (c, v) :: r, s => (if s = c + n then v else 0) + (if s = c - n then v else 0) + tot n r s
theorem look_fold (n s : Int) : ∀ (ps acc : Ps), look (ps.foldl (stepE n) acc) s = look acc s + tot n ps s
  | [], acc => by show look acc s = look acc s + 0; omega
  | (c, v) :: r, acc => by
    rw [List.foldl_cons, look_fold n s r, look_step]
    show _ = look acc s + ((if s = c + n then v else 0) + (if s = c - n then v else 0) + tot n r s)
    omega
theorem tot_eq (n s : Int) : ∀ {ps : Ps}, (keysP ps).Nodup → tot n ps s = look ps (s - n) + look ps (s + n)
  | [], _ => rfl
  | (c, v) :: r, h => by
    obtain ⟨h1, h2⟩ := List.nodup_cons.mp h
    show (if s = c + n then v else 0) + (if s = c - n then v else 0) + tot n r s = (if c = s - n then v else look r (s - n)) + (if c = s + n then v else look r (s + n))
    rw [tot_eq n s h2]
    by_cases e1 : s = c + n
    · have e1' : c = s - n := by omega
      rw [if_pos e1, if_pos e1']
      have z1 : look r (s - n) = 0 := look_absent (by rw [← e1']; exact h1)
      by_cases e2 : s = c - n
      · have e2' : c = s + n := by omega
        rw [if_pos e2, if_pos e2']
        have z2 : look r (s + n) = 0 := look_absent (by rw [← e2']; exact h1)
        omega
      · rw [if_neg e2, if_neg (show ¬ c = s + n by omega)]; omega
    · rw [if_neg e1, if_neg (show ¬ c = s - n by omega)]
      by_cases e2 : s = c - n
      · have e2' : c = s + n := by omega
        rw [if_pos e2, if_pos e2']
        have z2 : look r (s + n) = 0 := look_absent (by rw [← e2']; exact h1)
        omega
      · rw [if_neg e2, if_neg (show ¬ c = s + n by omega)]; omega
theorem mem_step {n : Int} {ps : Ps} {c v s : Int} : s ∈ keysP (stepE n ps (c, v)) ↔ s ∈ keysP ps ∨ s = c + n ∨ s = c - n := by
  unfold stepE stepA
  rw [mem_put, mem_put, or_assoc]
  dsimp only
  rw [show c + 1 * n = c + n by omega, show c + -1 * n = c - n by omega]
theorem mem_fold {n s : Int} : ∀ (ps acc : Ps), s ∈ keysP (ps.foldl (stepE n) acc) ↔ s ∈ keysP acc ∨ ∃ c ∈ keysP ps, s = c + n ∨ s = c - n
  | [], acc => by
    show s ∈ keysP acc ↔ _
    constructor
    · exact .inl
    · rintro (h | ⟨c, h, _⟩)
      · exact h
      · cases h
  | (c, v) :: r, acc => by
    rw [List.foldl_cons, mem_fold r, mem_step, or_assoc]
    constructor
    · rintro (h | h | ⟨c', h, e⟩)
      · exact .inl h
      · exact .inr ⟨c, List.mem_cons_self .., h⟩
      · exact .inr ⟨c', List.mem_cons_of_mem _ h, e⟩
    · rintro (h | ⟨c', h, e⟩)
      · exact .inl h
      · rcases List.mem_cons.mp h with rfl | h
        · exact .inr (.inl e)
        · exact .inr (.inr ⟨c', h, e⟩)
theorem nodup_fold (n : Int) : ∀ (ps acc : Ps), (keysP acc).Nodup → (keysP (ps.foldl (stepE n) acc)).Nodup
  | [], _, h => h
  | p :: r, acc, h => nodup_fold n r _ (nodup_put (nodup_put h))
theorem len_fold (n : Int) : ∀ (ps acc : Ps), (ps.foldl (stepE n) acc).length ≤ acc.length + 2 * ps.length
  | [], acc => by show acc.length ≤ acc.length + 2 * 0; omega
  | p :: r, acc => by
    rw [List.foldl_cons, List.length_cons]
    have h1 := len_fold n r (stepE n acc p)
    have h2 := put_len acc (p.1 + 1 * n) (look acc (p.1 + 1 * n) + p.2)
    have h3 : (stepE n acc p).length ≤ (stepA n acc p 1).length + 1 := put_len _ _ _
    have h4 : (stepA n acc p 1).length ≤ acc.length + 1 := h2
    omega
/-- what comes of the numbers behind, and in how many ways -/
def dic : List Int → Ps
  | [] => [(0, 1)]
  | n :: r => either n (dic r)
theorem dic_nodup : ∀ r : List Int, (keysP (dic r)).Nodup
  | [] => by decide
  | n :: r => nodup_fold n (dic r) [] List.nodup_nil
theorem cnt_nil (s : Int) : look (dic []) s = if s = 0 then 1 else 0 := by
  show (if (0 : Int) = s then (1 : Int) else 0) = _
  by_cases h : s = 0
  · rw [if_pos h.symm, if_pos h]
  · rw [if_neg (Ne.symm h), if_neg h]
theorem cnt_cons (n : Int) (r : List Int) (s : Int) : look (dic (n :: r)) s = look (dic r) (s - n) + look (dic r) (s + n) := by
  show look ((dic r).foldl (stepE n) []) s = _
  rw [look_fold, tot_eq n s (dic_nodup r)]
  show 0 + _ = _
  omega
def sgS : List Int → List Str → Int
  | n :: ns, s :: ss => (if s = "-" then -n else n) + sgS ns ss
  | _, _ => 0
abbrev sg2 : List Str := ["+", "-"]
theorem chs_cons (sg : List Str) : ∀ k : Nat, chs sg (k + 1) = sg.flatMap fun s => (chs sg k).map (s :: ·)
  | 0 => by
    show ([[]] : List (List Str)).flatMap (fun ss => sg.map fun s => ss ++ [s]) = sg.flatMap fun s => ([[]] : List (List Str)).map (s :: ·)
    rw [List.flatMap_cons, List.flatMap_nil, List.append_nil]
    induction sg with
    | nil => rfl
    | cons x r ih => rw [List.map_cons, List.flatMap_cons, ih]; rfl
  | k + 1 => by
    show (chs sg (k + 1)).flatMap (fun ss => sg.map fun s => ss ++ [s]) = sg.flatMap fun s => ((chs sg k).flatMap fun ss => sg.map fun t => ss ++ [t]).map (s :: ·)
    rw [chs_cons sg k, List.flatMap_assoc]
    congr 1
    funext s
    rw [List.flatMap_map, List.map_flatMap]
    congr 1
    funext ss
    rw [List.map_map]
    rfl
def dueS (r : List Int) (s : Int) : List (List Str) := (chs sg2 r.length).filter fun ss => decide (sgS r ss = s)
theorem dueS_nil (s : Int) : dueS [] s = if s = 0 then [[]] else [] := by
  unfold dueS
  show ([[]] : List (List Str)).filter (fun ss => decide (sgS [] ss = s)) = _
  by_cases h : s = 0
  · subst h; rw [if_pos rfl]; rfl
  · rw [if_neg h, List.filter_cons_of_neg (by show ¬ decide ((0 : Int) = s) = true; intro z; exact h (of_decide_eq_true z).symm)]; rfl
theorem dueS_cons (n : Int) (r : List Int) (s : Int) : dueS (n :: r) s = (dueS r (s - n)).map (("+" : Str) :: ·) ++ (dueS r (s + n)).map (("-" : Str) :: ·) := by
  unfold dueS
  show (chs sg2 (r.length + 1)).filter _ = _
  rw [chs_cons]
  show (((chs sg2 r.length).map (("+" : Str) :: ·)) ++ (((chs sg2 r.length).map (("-" : Str) :: ·)) ++ [])).filter _ = _
  rw [List.append_nil, List.filter_append, List.filter_map, List.filter_map]
  have e1 : (chs sg2 r.length).filter ((fun ss => decide (sgS (n :: r) ss = s)) ∘ fun x => ("+" : Str) :: x) = (chs sg2 r.length).filter fun ss => decide (sgS r ss = s - n) := by
    congr 1
    funext ss
    show decide ((if ("+" : Str) = "-" then -n else n) + sgS r ss = s) = decide (sgS r ss = s - n)
    rw [if_neg (by decide +kernel)]
    by_cases h : sgS r ss = s - n
    · rw [decide_eq_true h, decide_eq_true (by omega)]
    · rw [decide_eq_false h, decide_eq_false (by omega)]
  have e2 : (chs sg2 r.length).filter ((fun ss => decide (sgS (n :: r) ss = s)) ∘ fun x => ("-" : Str) :: x) = (chs sg2 r.length).filter fun ss => decide (sgS r ss = s + n) := by
    congr 1
    funext ss
    show decide ((if ("-" : Str) = "-" then -n else n) + sgS r ss = s) = decide (sgS r ss = s + n)
    rw [if_pos rfl]
    by_cases h : sgS r ss = s + n
    · rw [decide_eq_true h, decide_eq_true (by omega)]
    · rw [decide_eq_false h, decide_eq_false (by omega)]
  rw [e1, e2]
theorem due_cnt : ∀ (r : List Int) (s : Int), ((dueS r s).length : Int) = look (dic r) s
  | [], s => by
    rw [dueS_nil, cnt_nil]
    by_cases h : s = 0
    · rw [if_pos h, if_pos h]; rfl
    · rw [if_neg h, if_neg h]; rfl
  | n :: r, s => by
    rw [dueS_cons, cnt_cons, List.length_append, List.length_map, List.length_map, ← due_cnt r, ← due_cnt r]
    omega
theorem mem_dic : ∀ (r : List Int) (s : Int), s ∈ keysP (dic r) ↔ ∃ ss ∈ chs sg2 r.length, sgS r ss = s
  | [], s => by
    show s ∈ [(0 : Int)] ↔ ∃ ss ∈ ([[]] : List (List Str)), sgS [] ss = s
    constructor
    · intro h
      exact ⟨[], List.mem_singleton.mpr rfl, (List.mem_singleton.mp h).symm⟩
    · rintro ⟨ss, h, e⟩
      rw [List.mem_singleton.mp h] at e
      exact List.mem_singleton.mpr e.symm
  | n :: r, s => by
    show s ∈ keysP ((dic r).foldl (stepE n) []) ↔ _
    rw [mem_fold]
    have e3 : chs sg2 (n :: r).length = (chs sg2 r.length).map (("+" : Str) :: ·) ++ (chs sg2 r.length).map (("-" : Str) :: ·) := by
      show chs sg2 (r.length + 1) = _
      rw [chs_cons]
      show ((chs sg2 r.length).map (("+" : Str) :: ·)) ++ (((chs sg2 r.length).map (("-" : Str) :: ·)) ++ []) = _
      rw [List.append_nil]
    rw [e3]
    constructor
    · rintro (h | ⟨c, hc, e⟩)
      · cases h
      · obtain ⟨ss, h1, h2⟩ := (mem_dic r c).mp hc
        rcases e with e | e
        · refine ⟨"+" :: ss, List.mem_append_left _ (List.mem_map.mpr ⟨ss, h1, rfl⟩), ?_⟩
          show (if ("+" : Str) = "-" then -n else n) + sgS r ss = s
          rw [if_neg (by decide +kernel)]; omega
        · refine ⟨"-" :: ss, List.mem_append_right _ (List.mem_map.mpr ⟨ss, h1, rfl⟩), ?_⟩
          show (if ("-" : Str) = "-" then -n else n) + sgS r ss = s
          rw [if_pos rfl]; omega
    · rintro ⟨ss, h, e⟩
      refine .inr ?_
      rcases List.mem_append.mp h with h | h
      · obtain ⟨tt, h1, rfl⟩ := List.mem_map.mp h
        refine ⟨sgS r tt, (mem_dic r _).mpr ⟨tt, h1, rfl⟩, .inl ?_⟩
        have e' : (if ("+" : Str) = "-" then -n else n) + sgS r tt = s := e
        rw [if_neg (by decide +kernel)] at e'
        omega
      · obtain ⟨tt, h1, rfl⟩ := List.mem_map.mp h
        refine ⟨sgS r tt, (mem_dic r _).mpr ⟨tt, h1, rfl⟩, .inr ?_⟩
        have e' : (if ("-" : Str) = "-" then -n else n) + sgS r tt = s := e
        rw [if_pos rfl] at e'
        omega
end Law

set_option Elab.async false
set_option linter.all false
set_option maxRecDepth 100000
set_option maxHeartbeats 1000000
namespace Law
open PySem L2
/-! long rows of plus and less -/
def RowS (r : List Int) : Prop := r.length ≤ 39 ∧ ∀ n ∈ r, 1 ≤ n ∧ n ≤ 99
theorem RowS.drop {r : List Int} (h : RowS r) (k : Nat) : RowS (r.drop k) := ⟨by rw [List.length_drop]; have := h.1; omega, fun n hn => h.2 n (List.mem_of_mem_drop hn)⟩
theorem RowS.take {r : List Int} (h : RowS r) (k : Nat) : RowS (r.take k) := ⟨by rw [List.length_take]; have := h.1; omega, fun n hn => h.2 n (List.mem_of_mem_take hn)⟩
theorem sum_bd : ∀ {r : List Int}, (∀ n ∈ r, 1 ≤ n ∧ n ≤ 99) → 0 ≤ r.sum ∧ r.sum ≤ 99 * (r.length : Int)
  | [], _ => by simp
  | n :: r, h => by
    have h1 := sum_bd fun m hm => h m (List.mem_cons_of_mem _ hm)
    have h2 := h n (List.mem_cons_self ..)
    rw [List.sum_cons, List.length_cons]
    omega
theorem mem_either {n s : Int} {ps : Ps} : s ∈ keysP (either n ps) ↔ (s - n) ∈ keysP ps ∨ (s + n) ∈ keysP ps := by
  unfold either
  rw [mem_fold]
  constructor
  · rintro (h | ⟨c, hc, e | e⟩)
    · cases h
    · exact .inl (by rw [e, show c + n - n = c by omega]; exact hc)
    · exact .inr (by rw [e, show c - n + n = c by omega]; exact hc)
  · rintro (h | h)
    · exact .inr ⟨_, h, .inl (by omega)⟩
    · exact .inr ⟨_, h, .inr (by omega)⟩
theorem look_either (n s : Int) {ps : Ps} (h : (keysP ps).Nodup) : look (either n ps) s = look ps (s - n) + look ps (s + n) := by
  unfold either
  rw [look_fold, tot_eq n s h]
  show 0 + _ = _
  omega
theorem key_bd : ∀ {r : List Int}, (∀ n ∈ r, 1 ≤ n ∧ n ≤ 99) → ∀ s ∈ keysP (dic r), -r.sum ≤ s ∧ s ≤ r.sum ∧ (s + r.sum) % 2 = 0
  | [], _, s, h => by
    have : s = 0 := List.mem_singleton.mp h
    subst this; simp
  | n :: r, h, s, hs => by
    have h2 := h n (List.mem_cons_self ..)
    rw [List.sum_cons]
    rcases mem_either.mp hs with c | c
    · have := key_bd (fun m hm => h m (List.mem_cons_of_mem _ hm)) _ c
      omega
    · have := key_bd (fun m hm => h m (List.mem_cons_of_mem _ hm)) _ c
      omega
theorem key_top : ∀ r : List Int, r.sum ∈ keysP (dic r)
  | [] => List.mem_singleton.mpr rfl
  | n :: r => mem_either.mpr (.inl (by rw [List.sum_cons, show n + r.sum - n = r.sum by omega]; exact key_top r))
theorem key_low : ∀ r : List Int, -r.sum ∈ keysP (dic r)
  | [] => List.mem_singleton.mpr rfl
  | n :: r => mem_either.mpr (.inr (by rw [List.sum_cons, show -(n + r.sum) + n = -r.sum by omega]; exact key_low r))
theorem nodup_le : ∀ {ks xs : List Int}, ks.Nodup → (∀ m, m ∈ ks → m ∈ xs) → ks.length ≤ xs.length
  | [], _, _, _ => Nat.zero_le _
  | a :: r, xs, h, hs => by
    obtain ⟨h1, h2⟩ := List.nodup_cons.mp h
    have ha := hs a (List.mem_cons_self ..)
    have hr := nodup_le (xs := xs.erase a) h2 fun m hm => by
      have hne : m ≠ a := fun z => h1 (by rw [← z]; exact hm)
      exact (List.mem_erase_of_ne hne).mpr (hs m (List.mem_cons_of_mem _ hm))
    have hp : 1 ≤ xs.length := List.length_pos_of_mem ha
    rw [List.length_erase_of_mem ha] at hr
    rw [List.length_cons]; omega
theorem dic_lenS {r : List Int} (h : RowS r) : (dic r).length ≤ 3862 := by
  obtain ⟨s0, s1⟩ := sum_bd h.2
  have hl := h.1
  have := nodup_le (ks := keysP (dic r)) (xs := (List.range (r.sum.toNat + 1)).map fun i : Nat => 2 * (i : Int) - r.sum) (dic_nodup r) fun m hm => by
    have hb := key_bd h.2 m hm
    refine List.mem_map.mpr ⟨((m + r.sum) / 2).toNat, List.mem_range.mpr (by omega), by omega⟩
  unfold keysP at this
  rw [List.length_map, List.length_map, List.length_range] at this
  omega
theorem cnt_neg : ∀ (r : List Int) (s : Int), look (dic r) (-s) = look (dic r) s
  | [], s => by
    rw [cnt_nil, cnt_nil]
    by_cases h : s = 0
    · subst h; rfl
    · rw [if_neg h, if_neg (by omega)]
  | n :: r, s => by
    rw [cnt_cons, cnt_cons, show -s - n = -(s + n) by omega, show -s + n = -(s - n) by omega, cnt_neg r, cnt_neg r]
    omega
theorem cnt_snoc (n : Int) : ∀ (r : List Int) (s : Int), look (dic (r ++ [n])) s = look (dic r) (s - n) + look (dic r) (s + n)
  | [], s => cnt_cons n [] s
  | m :: r, s => by
    rw [List.cons_append, cnt_cons, cnt_cons, cnt_cons, cnt_snoc n r, cnt_snoc n r, show s - m - n = s - n - m by omega, show s - m + n = s + n - m by omega, show s + m - n = s - n + m by omega, show s + m + n = s + n + m by omega]
    omega
/-- counted from the first number on -/
def fwd (r0 : Int) (r : List Int) : Ps := r.foldl (fun ps n => either n ps) [(r0, 1)]
theorem fwd_snoc (r0 n : Int) (r : List Int) : fwd r0 (r ++ [n]) = either n (fwd r0 r) := by unfold fwd; rw [List.foldl_append]; rfl
theorem fwd_nodup (r0 : Int) (r : List Int) : (keysP (fwd r0 r)).Nodup := by
  unfold fwd
  suffices h : ∀ (r : List Int) (ps : Ps), (keysP ps).Nodup → (keysP (r.foldl (fun ps n => either n ps) ps)).Nodup from h r _ (by show ([r0] : List Int).Nodup; simp)
  intro r
  induction r with
  | nil => exact fun ps h => h
  | cons n r ih => exact fun ps h => ih _ (nodup_fold n ps [] List.nodup_nil)
theorem fwd_look' (r0 : Int) : ∀ (r : List Int) (s : Int), look (fwd r0 r.reverse) s = look (dic r.reverse) (s - r0)
  | [], s => by
    show (if r0 = s then (1 : Int) else 0) = (if (0 : Int) = s - r0 then 1 else 0)
    by_cases h : r0 = s
    · rw [if_pos h, if_pos (by omega)]
    · rw [if_neg h, if_neg (by omega)]
  | n :: r, s => by
    rw [List.reverse_cons, fwd_snoc, look_either n s (fwd_nodup r0 _), cnt_snoc, fwd_look' r0 r, fwd_look' r0 r, show s - n - r0 = s - r0 - n by omega, show s + n - r0 = s - r0 + n by omega]
theorem fwd_look (r0 : Int) (r : List Int) (s : Int) : look (fwd r0 r) s = look (dic r) (s - r0) := by
  have := fwd_look' r0 r.reverse s
  rwa [List.reverse_reverse] at this
def Pos (ps : Ps) : Prop := ∀ s, (s ∈ keysP ps ↔ 0 < look ps s) ∧ 0 ≤ look ps s
theorem Pos.either {ps : Ps} (h : Pos ps) (nd : (keysP ps).Nodup) (n : Int) : Pos (either n ps) := fun s => by
  rw [look_either n s nd, mem_either]
  have h1 := h (s - n)
  have h2 := h (s + n)
  refine ⟨?_, by omega⟩
  rw [h1.1, h2.1]
  omega
theorem one_pos (r0 : Int) : Pos [(r0, 1)] := fun s => by
  show (s ∈ [r0] ↔ 0 < if r0 = s then (1 : Int) else 0) ∧ 0 ≤ if r0 = s then (1 : Int) else 0
  by_cases h : r0 = s
  · rw [if_pos h]; subst h; simp
  · rw [if_neg h]
    refine ⟨⟨fun z => absurd (List.mem_singleton.mp z).symm h, fun z => by omega⟩, by omega⟩
theorem fwd_pos (r0 : Int) (r : List Int) : Pos (fwd r0 r) := by
  suffices h : ∀ l : List Int, Pos (fwd r0 l.reverse) by
    have := h r.reverse
    rwa [List.reverse_reverse] at this
  intro l
  induction l with
  | nil => exact one_pos r0
  | cons n l ih => rw [List.reverse_cons, fwd_snoc]; exact ih.either (fwd_nodup r0 _) n
theorem dic_pos : ∀ r : List Int, Pos (dic r)
  | [] => one_pos 0
  | n :: r => (dic_pos r).either (dic_nodup r) n
theorem fwd_mem (r0 : Int) (r : List Int) (s : Int) : s ∈ keysP (fwd r0 r) ↔ s - r0 ∈ keysP (dic r) := by
  rw [(fwd_pos r0 r s).1, fwd_look, (dic_pos r (s - r0)).1]
theorem fwd_len (r0 : Int) {r : List Int} (h : RowS r) : (fwd r0 r).length ≤ 3862 := by
  have h1 := dic_lenS h
  have := nodup_le (ks := keysP (fwd r0 r)) (xs := (keysP (dic r)).map (r0 + ·)) (fwd_nodup r0 r) fun m hm => List.mem_map.mpr ⟨m - r0, (fwd_mem r0 r m).mp hm, by omega⟩
  unfold keysP at this
  rw [List.length_map, List.length_map, List.length_map] at this
  omega
theorem due_some {r : List Int} {s : Int} : s ∈ keysP (dic r) ↔ 0 < (dueS r s).length := by
  rw [(dic_pos r s).1, ← due_cnt]
  omega
/-- the place of signs among those of the same worth -/
def idx : List Int → List Str → Int
  | n :: r, s :: ss => if s = "-" then look (dic r) (sgS (n :: r) (s :: ss) - n) + idx r ss else idx r ss
  | _, _ => 0
def keyOf (ss : List Str) : List Int := ss.map fun s => if s = ("-" : Str) then 1 else 0
theorem getD_map {l : List (List Str)} {s : Str} {i : Nat} (h : i < l.length) : (l.map (s :: ·)).getD i [] = s :: l.getD i [] := by
  rw [List.getD_eq_getElem?_getD, List.getElem?_map, List.getElem?_eq_getElem h, List.getD_eq_getElem?_getD, List.getElem?_eq_getElem h]; rfl
theorem nth_plus {n : Int} {r : List Int} {s : Int} {i : Nat} (h : i < (dueS r (s - n)).length) : (dueS (n :: r) s).getD i [] = ("+" : Str) :: (dueS r (s - n)).getD i [] := by
  rw [dueS_cons, List.getD_eq_getElem?_getD, List.getElem?_append_left (by rw [List.length_map]; exact h), ← List.getD_eq_getElem?_getD]
  exact getD_map h
theorem nth_less {n : Int} {r : List Int} {s : Int} {i : Nat} (h : (dueS r (s - n)).length ≤ i) (h2 : i < (dueS (n :: r) s).length) : i - (dueS r (s - n)).length < (dueS r (s + n)).length ∧ (dueS (n :: r) s).getD i [] = ("-" : Str) :: (dueS r (s + n)).getD (i - (dueS r (s - n)).length) [] := by
  rw [dueS_cons, List.length_append, List.length_map, List.length_map] at h2
  have h3 : i - (dueS r (s - n)).length < (dueS r (s + n)).length := by omega
  refine ⟨h3, ?_⟩
  rw [dueS_cons, List.getD_eq_getElem?_getD, List.getElem?_append_right (by rw [List.length_map]; exact h), List.length_map, ← List.getD_eq_getElem?_getD]
  exact getD_map h3
theorem getD_in {α : Type} {l : List α} {i : Nat} {d : α} (h : i < l.length) : l.getD i d ∈ l := by
  rw [List.getD_eq_getElem?_getD, List.getElem?_eq_getElem h]; exact List.getElem_mem h
theorem due_mem {r : List Int} {s : Int} {ss : List Str} (h : ss ∈ dueS r s) : ss ∈ chs sg2 r.length ∧ sgS r ss = s := by
  obtain ⟨h1, h2⟩ := List.mem_filter.mp h
  exact ⟨h1, of_decide_eq_true h2⟩
theorem idx_nth : ∀ (r : List Int) (s : Int) (i : Nat), i < (dueS r s).length → idx r ((dueS r s).getD i []) = i
  | [], s, i, h => by
    rw [dueS_nil] at h ⊢
    by_cases h0 : s = 0
    · rw [if_pos h0] at h ⊢
      have : i = 0 := by simpa using h
      subst this; rfl
    · rw [if_neg h0] at h; simp at h
  | n :: r, s, i, h => by
    by_cases c : i < (dueS r (s - n)).length
    · rw [nth_plus c]
      show (if ("+" : Str) = "-" then _ else idx r _) = _
      rw [if_neg (by decide +kernel), idx_nth r _ i c]
    · obtain ⟨h1, h2⟩ := nth_less (by omega) h
      rw [h2]
      show (if ("-" : Str) = "-" then look (dic r) (((if ("-" : Str) = "-" then -n else n) + sgS r _) - n) + idx r _ else _) = _
      rw [if_pos rfl, if_pos rfl, idx_nth r _ _ h1, (due_mem (getD_in h1)).2, show -n + (s + n) - n = s - n by omega, ← due_cnt]
      omega
theorem key_rise : ∀ (r : List Int) (s : Int) (i j : Nat), i < j → j < (dueS r s).length → HT.lexLt (keyOf ((dueS r s).getD i [])) (keyOf ((dueS r s).getD j [])) = true
  | [], s, i, j, h, h' => by
    rw [dueS_nil] at h'
    by_cases h0 : s = 0
    · rw [if_pos h0] at h'; simp at h'; omega
    · rw [if_neg h0] at h'; simp at h'
  | n :: r, s, i, j, h, h' => by
    have e1 : ∀ ss, keyOf (("+" : Str) :: ss) = 0 :: keyOf ss := fun ss => by
      show (if ("+" : Str) = "-" then (1 : Int) else 0) :: keyOf ss = _
      rw [if_neg (by decide +kernel)]
    have e2 : ∀ ss, keyOf (("-" : Str) :: ss) = 1 :: keyOf ss := fun ss => by
      show (if ("-" : Str) = "-" then (1 : Int) else 0) :: keyOf ss = _
      rw [if_pos rfl]
    by_cases c : j < (dueS r (s - n)).length
    · rw [nth_plus c, nth_plus (by omega), e1, e1, HT.lexLt_cons, if_pos rfl]
      exact key_rise r _ i j h c
    · obtain ⟨a1, a2⟩ := nth_less (by omega) h'
      rw [a2, e2]
      by_cases c2 : i < (dueS r (s - n)).length
      · rw [nth_plus c2, e1, HT.lexLt_cons, if_neg (by decide)]; decide
      · obtain ⟨b1, b2⟩ := nth_less (n := n) (r := r) (s := s) (i := i) (by omega) (by omega)
        rw [b2, e2, HT.lexLt_cons, if_pos rfl]
        exact key_rise r _ _ _ (by omega) a1
/-- all ways of all wishes together -/
theorem one_of : ∀ {ms : List Int} {x : Int}, ms.Nodup → x ∈ ms → (ms.map fun m => if x = m then (1 : Int) else 0).sum = 1
  | [], _, _, h => by cases h
  | a :: r, x, h, hx => by
    obtain ⟨h1, h2⟩ := List.nodup_cons.mp h
    rw [List.map_cons, List.sum_cons]
    by_cases e : x = a
    · subst e
      have : (r.map fun m => if x = m then (1 : Int) else 0) = r.map fun _ => 0 := List.map_congr_left fun m hm => if_neg fun (z : x = m) => h1 (by rw [z]; exact hm)
      rw [if_pos rfl, this]
      have z : ∀ l : List Int, (l.map fun _ => (0 : Int)).sum = 0 := fun l => by
        induction l with
        | nil => rfl
        | cons _ _ ih => rw [List.map_cons, List.sum_cons, ih]; rfl
      rw [z]; rfl
    · rw [if_neg e, one_of h2 (by rcases List.mem_cons.mp hx with z | z; exact absurd z e; exact z)]; rfl
theorem sum_add (f g : Int → Int) : ∀ ms : List Int, (ms.map fun m => f m + g m).sum = (ms.map f).sum + (ms.map g).sum
  | [] => rfl
  | a :: r => by rw [List.map_cons, List.map_cons, List.map_cons, List.sum_cons, List.sum_cons, List.sum_cons, sum_add f g r]; omega
theorem parted {α : Type} (f : α → Int) {ms : List Int} (nd : ms.Nodup) : ∀ L : List α, (∀ x ∈ L, f x ∈ ms) → (ms.map fun m => (((L.filter fun x => decide (f x = m)).length : Nat) : Int)).sum = L.length
  | [], _ => by
    show (ms.map fun m => (0 : Int)).sum = 0
    clear nd
    generalize ms = l
    induction l with
    | nil => rfl
    | cons _ _ ih => rw [List.map_cons, List.sum_cons, ih]; rfl
  | x :: L, h => by
    have e : (ms.map fun m => ((((x :: L).filter fun x => decide (f x = m)).length : Nat) : Int)) = ms.map fun m => (if f x = m then (1 : Int) else 0) + (((L.filter fun x => decide (f x = m)).length : Nat) : Int) := by
      apply List.map_congr_left
      intro m _
      by_cases c : f x = m
      · rw [List.filter_cons_of_pos (p := fun x => decide (f x = m)) (a := x) (decide_eq_true c), if_pos c, List.length_cons]; omega
      · rw [List.filter_cons_of_neg (p := fun x => decide (f x = m)) (a := x) (by simpa using c), if_neg c]; omega
    rw [e, sum_add, one_of nd (h x (List.mem_cons_self ..)), parted f nd L fun y hy => h y (List.mem_cons_of_mem _ hy), List.length_cons]
    omega
theorem all_ways {r0 : Int} {r : List Int} {ms : List Int} (nd : ms.Nodup) (hm : ∀ m, m ∈ ms ↔ ∃ ss ∈ chs sg2 r.length, r0 + sgS r ss = m) : (ms.map fun m => ((dueS r (m - r0)).length : Int)).sum = 2 ^ r.length := by
  have := parted (fun ss => r0 + sgS r ss) nd (chs sg2 r.length) fun ss hs => (hm _).mpr ⟨ss, hs, rfl⟩
  rw [chs_length] at this
  rw [show ((2 : Int) ^ r.length) = (((sg2.length ^ r.length : Nat)) : Int) by rw [Int.natCast_pow]; rfl, ← this]
  congr 1
  apply List.map_congr_left
  intro m _
  unfold dueS
  congr 2
  apply List.filter_congr
  intro ss _
  by_cases c : r0 + sgS r ss = m
  · rw [decide_eq_true c, decide_eq_true (by omega)]
  · rw [decide_eq_false c, decide_eq_false (by omega)]
theorem rise_top : ∀ {ms : List Int} {M : Int}, ms.Pairwise (· < ·) → M ∈ ms → (∀ m ∈ ms, m ≤ M) → ∃ l, ms = l ++ [M]
  | [], _, _, h, _ => by cases h
  | [a], M, _, h, _ => ⟨[], by rw [List.mem_singleton.mp h]; rfl⟩
  | a :: b :: r, M, hp, h, hm => by
    obtain ⟨h1, h2⟩ := List.pairwise_cons.mp hp
    have hM : M ∈ b :: r := by
      rcases List.mem_cons.mp h with z | z
      · have := h1 b (List.mem_cons_self ..)
        have := hm b (List.mem_cons_of_mem _ (List.mem_cons_self ..))
        omega
      · exact z
    obtain ⟨l, e⟩ := rise_top h2 hM fun m hm2 => hm m (List.mem_cons_of_mem _ hm2)
    exact ⟨a :: l, by rw [e]; rfl⟩
theorem rise_low {ms : List Int} {M : Int} (hp : ms.Pairwise (· < ·)) (h : M ∈ ms) (hm : ∀ m ∈ ms, M ≤ m) : ∃ l, ms = M :: l := by
  cases ms with
  | nil => cases h
  | cons a r =>
    obtain ⟨h1, _⟩ := List.pairwise_cons.mp hp
    rcases List.mem_cons.mp h with z | z
    · exact ⟨r, by rw [z]⟩
    · have := h1 M z
      have := hm a (List.mem_cons_self ..)
      omega
end Law

set_option Elab.async false
set_option linter.all false
set_option maxRecDepth 100000
set_option maxHeartbeats 4000000
namespace L2
open PySem PySem.Spec PyProof.Rows
/-! zip of a tuple and a list -/
section
variable {prog : Program} {w : World} {A : Around} {E : Value → Shared → Prop} {s : Shared}
/-- the zip's own records -/
structure ZM (h : Heap) (z ti to i j a b : Addr) (f0 : Value) (k : Nat) : Prop where
  zz : IsZip h z ti to f0
  pi : IsPair h ti (.ref i) (.ref j)
  po : ∃ x y, IsPair h to x y
  ia : h.IsTupleIter i a k
  jb : h.IsListIter j b k
theorem zipM_item {z ti to i j a b : Addr} {k : Nat} {xs ys : Array Value} {x y : Value} {Q : Value → Shared → Prop} (D : ZipApart z ti to i j a b) (Z : ZM s.heap z ti to i j a b .none k)
    (ha : s.heap.IsTuple a xs) (hb : s.heap.IsList b ys) (hx : xs[k]? = some x) (hy : ys[k]? = some y)
    (hq : ∀ g, ZM g z ti to i j a b (rawInt s.heap.objs.size) (k + 1) → IsPair g s.heap.objs.size x y → g.objs.size = s.heap.objs.size + 1 →
      (∀ c o, c ≠ z → c ≠ to → c ≠ i → c ≠ j → s.heap.get? c = some o → g.get? c = some o) → Q (.ref s.heap.objs.size) { s with heap := g }) :
    wpAny (model prog w) A (Builtin.«zip.__next__» ⟨[.ref z], []⟩) (fun fin s' => ∃ v, fin = .done (.ret v) ∧ Q v s') E s := by
  obtain ⟨Zz, Zi, ⟨u, v, Zo⟩, Za, Zb⟩ := Z
  show wpAny _ _ (field (.ref z) 2 >>= _) _ _ _
  refine wpAny_bind (wpAny_field Zz rfl (x := .bool false) rfl ?_)
  show wpAny _ _ (field (.ref z) 3 >>= _) _ _ _
  refine wpAny_bind (wpAny_field Zz rfl (x := .ref ti) rfl (wpAny_bind (wpAny_seqItems Zi rfl ?_)))
  show wpAny _ _ (Builtin.SmallTypes.ownedTupleIsFree (.ref z) >>= _) _ _ _
  refine wpAny_bind ?_
  unfold Builtin.SmallTypes.ownedTupleIsFree
  refine wpAny_bind (wpAny_field Zz rfl (x := .none) rfl (wpAny_pure ?_))
  simp only [if_true]
  refine wpAny_bind (wpAny_rule (wpAny_bind (wpAny_field Zz rfl (x := .ref to) rfl (wpAny_bind (wpAny_setField_rec Zz (by simp) fun g1 z1 b1 => ?_)))))
  replace z1 : IsZip g1 z ti to .ellipsis := z1
  refine wpAny_bind ?_
  simp only [List.zipIdx_cons, List.zipIdx_nil, List.forIn_cons, List.forIn_nil]
  refine wpAny_bind (wpAny_bind (wpAny_onRaise ?_))
  show wpAny _ _ (Builtin.SmallTypes.nextOf (.ref i) >>= _) _ _ _
  refine wpAny_bind (nextT_item (Za.extBut b1.extBut D.i1z) (ha.extBut b1.extBut D.l1z) hx fun g2 p2 b2 => wpAny_pure ?_)
  have o2 : IsPair g2 to u v := b2.extBut _ _ D.TOi1 (b1.extBut _ _ D.TOz Zo)
  refine wpAny_bind (wpAny_seqItems o2 rfl (wpAny_bind (wpAny_updateSeq_pair o2 fun g3 o3 b3 => ?_)))
  replace o3 : IsPair g3 to x v := o3
  refine wpAny_bind (wpAny_letGo (wpAny_pure (wpAny_bind (wpAny_bind (wpAny_onRaise ?_)))))
  show wpAny _ _ (Builtin.SmallTypes.nextOf (.ref j) >>= _) _ _ _
  refine wpAny_bind (wpAny_nextOf_list_item (((Zb.extBut b1.extBut D.i2z).extBut b2.extBut D.i12.symm).extBut b3.extBut D.TOi2.symm) (((hb.extBut b1.extBut D.l2z).extBut b2.extBut D.l2i1).extBut b3.extBut D.l2TO) hy fun g4 p4 b4 => wpAny_pure ?_)
  have o4 : IsPair g4 to x v := b4.extBut _ _ D.TOi2 o3
  refine wpAny_bind (wpAny_seqItems o4 rfl (wpAny_bind (wpAny_updateSeq_pair o4 fun g5 o5 b5 => ?_)))
  replace o5 : IsPair g5 to x y := o5
  refine wpAny_bind (wpAny_letGo (wpAny_pure (wpAny_pure (wpAny_bind (wpAny_seqItems o5 rfl (wpAny_bind (wpAny_newTuple ?_)))))))
  have sz : g5.objs.size = s.heap.objs.size := by rw [b5.1, b4.1, b3.1, b2.1, b1.1]
  have z5 : IsZip g5 z ti to .ellipsis := b5.extBut _ _ D.TOz.symm (b4.extBut _ _ D.i2z.symm (b3.extBut _ _ D.TOz.symm (b2.extBut _ _ D.i1z.symm z1)))
  have keep5 : ∀ c o, c ≠ z → c ≠ to → c ≠ i → c ≠ j → s.heap.get? c = some o → g5.get? c = some o := fun c o n1 n2 n3 n4 e => b5.extBut _ _ n2 (b4.extBut _ _ n4 (b3.extBut _ _ n2 (b2.extBut _ _ n3 (b1.extBut _ _ n1 e))))
  have pa5 : g5.IsTupleIter i a (k + 1) := ((p2.extBut b3.extBut D.TOi1.symm).extBut b4.extBut D.i12).extBut b5.extBut D.TOi1.symm
  have pb5 : g5.IsListIter j b (k + 1) := p4.extBut b5.extBut D.TOi2.symm
  have zlt : z < g5.objs.size := Heap.lt_size z5
  show wpAny _ _ (Builtin.SmallTypes.ownedTupleHandOut (.ref z) (.ref g5.objs.size) >>= _) _ _ _
  refine wpAny_bind ?_
  unfold Builtin.SmallTypes.ownedTupleHandOut
  have z6 : IsZip (g5.push { cls := .type "tuple", data := .seq #[x, y] }) z ti to .ellipsis := Heap.get?_push_of_some _ z5
  refine wpAny_bind (wpAny_setField_rec z6 (by simp) fun g7 z7 b7 => ?_)
  replace z7 : IsZip g7 z ti to (rawInt g5.objs.size) := z7
  refine wpAny_setField_rec z7 (by simp) fun g8 z8 b8 => ?_
  replace z8 : IsZip g8 z ti to (rawInt g5.objs.size) := z8
  have keep8 : ∀ c o, c ≠ z → g5.get? c = some o → g8.get? c = some o := fun c o n e => b8.extBut _ _ n (b7.extBut _ _ n (Heap.get?_push_of_some _ e))
  have new8 : IsPair g8 g5.objs.size x y := b8.extBut _ _ (Nat.ne_of_gt zlt) (b7.extBut _ _ (Nat.ne_of_gt zlt) (Heap.get?_push_size _ rfl))
  have sz8 : g8.objs.size = g5.objs.size + 1 := by rw [b8.1, b7.1, Heap.size_push]
  rw [sz] at z8 new8 sz8
  refine wpAny_pure ⟨_, rfl, ?_⟩
  show Q (.ref g5.objs.size) _
  rw [sz]
  exact hq g8 ⟨z8, keep8 _ _ D.TIz (keep5 _ _ D.TIz D.TITO D.TIi1 D.TIi2 Zi), ⟨x, y, keep8 _ _ D.TOz o5⟩, pa5.at fun o e => keep8 _ o D.i1z e, pb5.at fun o e => keep8 _ o D.i2z e⟩ new8 sz8 fun c o n1 n2 n3 n4 e => keep8 c o n1 (keep5 c o n1 n2 n3 n4 e)
theorem zipM_stop {z ti to i j a b : Addr} {k : Nat} {xs ys : Array Value} {Q : PySem.Fin → Shared → Prop} (hh : A.handled = none) (D : ZipApart z ti to i j a b) (Z : ZM s.heap z ti to i j a b .none k)
    (ha : s.heap.IsTuple a xs) (hb : s.heap.IsList b ys) (hend : xs[k]? = none ∨ ys[k]? = none)
    (hE : ∀ g e, (∀ c o, c ≠ z → c ≠ to → c ≠ i → c ≠ j → s.heap.get? c = some o → g.get? c = some o) → (∃ o, g.get? e = some o ∧ o.cls = .type "StopIteration") → E (.ref e) { s with heap := g }) :
    wpAny (model prog w) A (Builtin.«zip.__next__» ⟨[.ref z], []⟩) Q E s := by
  obtain ⟨Zz, Zi, ⟨u, v, Zo⟩, Za, Zb⟩ := Z
  show wpAny _ _ (field (.ref z) 2 >>= _) _ _ _
  refine wpAny_bind (wpAny_field Zz rfl (x := .bool false) rfl ?_)
  show wpAny _ _ (field (.ref z) 3 >>= _) _ _ _
  refine wpAny_bind (wpAny_field Zz rfl (x := .ref ti) rfl (wpAny_bind (wpAny_seqItems Zi rfl ?_)))
  show wpAny _ _ (Builtin.SmallTypes.ownedTupleIsFree (.ref z) >>= _) _ _ _
  refine wpAny_bind ?_
  unfold Builtin.SmallTypes.ownedTupleIsFree
  refine wpAny_bind (wpAny_field Zz rfl (x := .none) rfl (wpAny_pure ?_))
  simp only [if_true]
  refine wpAny_bind (wpAny_rule (wpAny_bind (wpAny_field Zz rfl (x := .ref to) rfl (wpAny_bind (wpAny_setField_rec Zz (by simp) fun g1 z1 b1 => ?_)))))
  replace z1 : IsZip g1 z ti to .ellipsis := z1
  refine wpAny_bind ?_
  simp only [List.zipIdx_cons, List.zipIdx_nil, List.forIn_cons, List.forIn_nil]
  refine wpAny_bind (wpAny_bind (wpAny_onRaise ?_))
  show wpAny _ _ (Builtin.SmallTypes.nextOf (.ref i) >>= _) _ _ _
  cases hx : xs[k]? with
  | none =>
    refine wpAny_bind (nextT_stop hh (Za.extBut b1.extBut D.i1z) (ha.extBut b1.extBut D.l1z) hx fun g2 e b2 ⟨oe, q1, q2⟩ => ?_)
    have z2 : IsZip g2 z ti to .ellipsis := b2 _ _ D.i1z.symm z1
    have ez : e ≠ z := fun x => by
      subst x
      rw [z2] at q1
      cases q1
      simp at q2
    exact wpAny_setField_rec z2 (by simp) fun g3 _ b3 => hE g3 e (fun c o n1 _ n3 _ x => b3.extBut _ _ n1 (b2 _ _ n3 (b1.extBut _ _ n1 x))) ⟨oe, b3.extBut _ _ ez q1, q2⟩
  | some x =>
    have hy : ys[k]? = none := hend.elim (fun h => by rw [hx] at h; cases h) id
    refine wpAny_bind (nextT_item (Za.extBut b1.extBut D.i1z) (ha.extBut b1.extBut D.l1z) hx fun g2 p2 b2 => wpAny_pure ?_)
    have o2 : IsPair g2 to u v := b2.extBut _ _ D.TOi1 (b1.extBut _ _ D.TOz Zo)
    refine wpAny_bind (wpAny_seqItems o2 rfl (wpAny_bind (wpAny_updateSeq_pair o2 fun g3 o3 b3 => wpAny_bind (wpAny_letGo (wpAny_pure (wpAny_bind (wpAny_bind (wpAny_onRaise ?_))))))))
    show wpAny _ _ (Builtin.SmallTypes.nextOf (.ref j) >>= _) _ _ _
    refine wpAny_bind (wpAny_nextOf_list_end hh (((Zb.extBut b1.extBut D.i2z).extBut b2.extBut D.i12.symm).extBut b3.extBut D.TOi2.symm) (((hb.extBut b1.extBut D.l2z).extBut b2.extBut D.l2i1).extBut b3.extBut D.l2TO) hy fun g4 e b4 ⟨oe, q1, q2⟩ => ?_)
    have z4 : IsZip g4 z ti to .ellipsis := b4 _ _ D.i2z.symm (b3.extBut _ _ D.TOz.symm (b2.extBut _ _ D.i1z.symm z1))
    have ez : e ≠ z := fun x => by
      subst x
      rw [z4] at q1
      cases q1
      simp at q2
    exact wpAny_setField_rec z4 (by simp) fun g5 _ b5 => hE g5 e (fun c o n1 n2 n3 n4 x => b5.extBut _ _ n1 (b4 _ _ n4 (b3.extBut _ _ n2 (b2.extBut _ _ n3 (b1.extBut _ _ n1 x))))) ⟨oe, b5.extBut _ _ ez q1, q2⟩
end

/-! its making, and the loop over it -/
section
variable {prog : Program} {w : World} {A : Around} {E : Value → Shared → Prop} {s : Shared}
abbrev zm1 (h : Heap) (a : Addr) : Heap := h.push { cls := .type "tuple_iterator", data := .fields #[.ref a, .int 0 0] }
abbrev zm2 (h : Heap) (a b : Addr) : Heap := (zm1 h a).push { cls := .type "list_iterator", data := .fields #[.ref b, .int 0 0] }
abbrev zm3 (h : Heap) (a b : Addr) : Heap := (zm2 h a b).push { cls := .type "tuple", data := .seq #[.ref h.objs.size, .ref (zm1 h a).objs.size] }
abbrev zm4 (h : Heap) (a b : Addr) : Heap := (zm3 h a b).push { cls := .type "tuple", data := .seq #[.none, .none] }
abbrev zm5 (h : Heap) (a b : Addr) : Heap := (zm4 h a b).push { cls := .type "zip", data := .fields #[.none, .bool false, .bool false, .ref (zm2 h a b).objs.size, .ref (zm3 h a b).objs.size] }
theorem meets_zipM (a b : Addr) (xs ys : Array Value) : Meets (Builtin.«zip.__new__» ⟨[.type "zip", .ref a, .ref b], []⟩)
    (fun _ R s => s.heap.IsTuple a xs ∧ s.heap.IsList b ys ∧ R (.ok (.ret (.ref (zm4 s.heap a b).objs.size))) { s with heap := zm5 s.heap a b }) :=
  .of_wp fun prog w A R s h => by
    obtain ⟨hp, g, d, tk, os⟩ := s
    obtain ⟨h1, h2, h⟩ := h
    have hsub := sub_zip
    have t1 : Heap.IsTuple (Shared.heap ⟨hp, g, d, tk, os⟩) a xs := h1
    have t2 : Heap.IsList (Shared.heap ⟨hp.push { cls := .type "tuple_iterator", data := .fields #[.ref a, .int 0 0] }, g, d, tk, os⟩) b ys := Heap.IsList.push h2 _
    wp_walk using wpAny_pyIter_tuple t1, wpAny_pyIter_list t2
    exact ⟨_, rfl, h⟩
theorem call_zipM {a b : Addr} {xs ys : Array Value} {Q : Value → Shared → Prop} (ha : s.heap.IsTuple a xs) (hb : s.heap.IsList b ys)
    (h : ∀ g, ZM g (s.heap.objs.size + 4) (s.heap.objs.size + 2) (s.heap.objs.size + 3) s.heap.objs.size (s.heap.objs.size + 1) a b .none 0 → g.objs.size = s.heap.objs.size + 5 → (∀ c o, s.heap.get? c = some o → g.get? c = some o) →
      Q (.ref (s.heap.objs.size + 4)) { s with heap := g }) : wpAny (model prog w) A (call (.type "zip") [.ref a, .ref b]) Q E s := by
  refine callType_new F.called_zip (by decide) (F.typeCall_zip_2 _ _) (F.newCall_zip_2 _ _) (fun obj => F.args_object_init_3 obj _ _) F.entry_zip_new (meets_zipM a b xs ys) ⟨ha, hb, ?_⟩
  have z1 : (zm1 s.heap a).objs.size = s.heap.objs.size + 1 := Heap.size_push ..
  have z2 : (zm2 s.heap a b).objs.size = s.heap.objs.size + 2 := by rw [Heap.size_push, z1]
  have z3 : (zm3 s.heap a b).objs.size = s.heap.objs.size + 3 := by rw [Heap.size_push, z2]
  have z4 : (zm4 s.heap a b).objs.size = s.heap.objs.size + 4 := by rw [Heap.size_push, z3]
  have z5 : (zm5 s.heap a b).objs.size = s.heap.objs.size + 5 := by rw [Heap.size_push, z4]
  have g5 : (zm5 s.heap a b).get? (zm4 s.heap a b).objs.size = some _ := Heap.get?_push_size _ rfl
  have g4 : (zm5 s.heap a b).get? (zm3 s.heap a b).objs.size = some _ := Heap.get?_push_of_some _ (Heap.get?_push_size _ rfl)
  have g3 : (zm5 s.heap a b).get? (zm2 s.heap a b).objs.size = some _ := Heap.get?_push_of_some _ (Heap.get?_push_of_some _ (Heap.get?_push_size _ rfl))
  have g2 : (zm5 s.heap a b).get? (zm1 s.heap a).objs.size = some _ := Heap.get?_push_of_some _ (Heap.get?_push_of_some _ (Heap.get?_push_of_some _ (Heap.get?_push_size _ rfl)))
  have g1 : (zm5 s.heap a b).get? s.heap.objs.size = some _ := Heap.get?_push_of_some _ (Heap.get?_push_of_some _ (Heap.get?_push_of_some _ (Heap.get?_push_of_some _ (Heap.get?_push_size _ rfl))))
  show _ ∧ _
  rw [z2, z3, z4] at g5
  rw [z1, z2] at g3
  rw [z3] at g4
  rw [z1] at g2
  rw [z4]
  exact ⟨⟨_, g5, rfl⟩, h _ ⟨g5, g3, ⟨_, _, g4⟩, ⟨_, g1, rfl, rfl⟩, ⟨_, g2, rfl, rfl⟩⟩ z5 fun c o x => Heap.get?_push_of_some _ (Heap.get?_push_of_some _ (Heap.get?_push_of_some _ (Heap.get?_push_of_some _ (Heap.get?_push_of_some _ x))))⟩
end
/-- two tuples side by side, as far as the shorter goes -/
def ItzM (K : PySem.W.Frag) (p q : Addr) : It :=
  ⟨fun i H => ∃ xs ys x y, SqT K H p xs ∧ SqL K H q ys ∧ xs[i]? = some x ∧ ys[i]? = some y,
   fun i H v H' => ∃ T x y, v = .ref T ∧ H T = none ∧ H' = upd H T (.tup [x, y]) ∧ ∀ xs ys, SqT K H p xs → SqL K H q ys → xs[i]? = some x ∧ ys[i]? = some y,
   fun i H => ∃ xs ys, SqT K H p xs ∧ SqL K H q ys ∧ (xs.length ≤ i ∨ ys.length ≤ i)⟩
theorem turn_zipM {P : Program} {w : World} {K : PySem.W.Frag} {es : List Expr} {kk : Nat} {pos : Pos} (p q z ti to i j : Addr) (D : ZipApart z ti to i j p q) :
    Turn P w K (.Tuple es kk pos) (ItzM K p q) [z, ti, to, i, j] z (fun k h => ZM h z ti to i j p q .none k) where
  mem := by simp
  obj := fun k h st b hb => by
    obtain ⟨a1, a2, ⟨u, v, a3⟩, ⟨o4, a4, c4, d4⟩, ⟨o5, a5, c5, d5⟩⟩ := st
    simp only [List.mem_cons, List.not_mem_nil, or_false] at hb
    rcases hb with rfl | rfl | rfl | rfl | rfl
    · exact ⟨_, a1, fun v e => by cases e⟩
    · exact ⟨_, a2, fun v e => by cases e⟩
    · exact ⟨_, a3, fun v e => by cases e⟩
    · exact ⟨_, a4, fun v e => by rw [d4] at e; cases e⟩
    · exact ⟨_, a5, fun v e => by rw [d5] at e; cases e⟩
  keep := fun k h h' st kp => by
    obtain ⟨a1, a2, ⟨u, v, a3⟩, a4, a5⟩ := st
    exact ⟨kp z (by simp) _ a1, kp ti (by simp) _ a2, ⟨u, v, kp to (by simp) _ a3⟩, a4.at fun o e => kp i (by simp) o e, a5.at fun o e => kp j (by simp) o e⟩
  item := by
    intro X hP hw hK hc k pins s σ H E I hf st hg
    subst hP hw hK
    obtain ⟨xs, ys, x, y, hp, hq, hx, hy⟩ := hg
    obtain ⟨us, ru, pu, _⟩ := I.tuple hp
    obtain ⟨vs, rv, pv, _⟩ := I.list hq
    obtain ⟨u, eu, r1⟩ := ru.get hx
    obtain ⟨v, ev, r2⟩ := rv.get hy
    have hT : s.TypeIs (.ref z) "zip" := ⟨_, st.zz, rfl⟩
    unfold pyNext
    refine wpAny_bind (wpAny_attempt (wpAny_callSpecial?_slot (name := Str.ofString "__next__") hT F.slot_zip_next (wpAny_call_entry F.slot_zip_next hT F.entry_zip_next (zipM_item D st (show s.heap.IsTuple p us.toArray from pu) pv.isList (by simpa using eu) (by simpa using ev) fun g Zg new sz kp => wpAny_pure ?_) (F.args_zip_next_1 _))))
    refine ⟨_, rfl, ?_⟩
    refine wpAny_letOwnedTupleGo_zip Zg.zz fun g' z' b' => ?_
    have fz := hf z (by simp)
    have fo := hf to (by simp)
    have fi := hf i (by simp)
    have fj := hf j (by simp)
    have nT : H s.heap.objs.size = none := I.hok.fresh (Nat.le_refl _)
    have kp' : ∀ c o, c ≠ z → c ≠ to → c ≠ i → c ≠ j → s.heap.get? c = some o → g'.get? c = some o := fun c o n1 n2 n3 n4 e => b'.extBut _ _ n1 (kp c o n1 n2 n3 n4 e)
    have zne : s.heap.objs.size ≠ z := Nat.ne_of_gt (Heap.lt_size st.zz)
    have new' : IsPair g' s.heap.objs.size u v := b'.extBut _ _ zne new
    have notch : ∀ b, b ∉ [z, to, i, j] → b ≠ z ∧ b ≠ to ∧ b ≠ i ∧ b ≠ j := fun b hb => by simpa using hb
    have trk : ∀ b o, H b = some o → b ≠ z ∧ b ≠ to ∧ b ≠ i ∧ b ≠ j := fun b o e => ⟨ne_of_none e fz.1, ne_of_none e fo.1, ne_of_none e fi.1, ne_of_none e fj.1⟩
    have I1 : Inv X pins σ (upd H s.heap.objs.size (.tup [x, y])) { s with heap := g' } := by
      refine I.step (g' := s.gens) (d' := s.drawn) (t' := s.toks) (ch := [z, to, i, j]) (fun b hb => ?_) (fun b o _ _ hc e _ => ?_) (fun b o _ _ hc e _ => ?_) (fun b o hc e n => ?_) (fun b o hc e => ?_) (fun b xs e => ?_) (fun b o u e => ?_) (fun b ps e => ⟨#[], ?_⟩) (fun m hm => ?_) (fun b o e => ?_) I.bare
      · simp only [List.mem_cons, List.not_mem_nil, or_false] at hb
        rcases hb with rfl | rfl | rfl | rfl
        · exact ⟨fz.2.2.2.1, fz.2.1, fz.2.2.2.2.1, fz.2.2.2.2.2⟩
        · exact ⟨fo.2.2.2.1, fo.2.1, fo.2.2.2.2.1, fo.2.2.2.2.2⟩
        · exact ⟨fi.2.2.2.1, fi.2.1, fi.2.2.2.2.1, fi.2.2.2.2.2⟩
        · exact ⟨fj.2.2.2.1, fj.2.1, fj.2.2.2.2.1, fj.2.2.2.2.2⟩
      · obtain ⟨n1, n2, n3, n4⟩ := notch b hc
        exact kp' b o n1 n2 n3 n4 e
      · obtain ⟨n1, n2, n3, n4⟩ := notch b hc
        exact ⟨o.slots, kp' b o n1 n2 n3 n4 e⟩
      · rw [upd_ne (Nat.ne_of_lt (Heap.lt_size e))]; exact n
      · obtain ⟨n1, n2, n3, n4⟩ := notch b hc
        exact ⟨o, kp' b o n1 n2 n3 n4 e⟩
      · rw [upd_ne (ne_of_none e nT)]; exact e
      · rw [upd_ne (ne_of_none e nT)]; exact e
      · rw [upd_ne (ne_of_none e nT), e]; simp
      · obtain ⟨o, es, ep, ho, r⟩ := hm
        exact ⟨o, es, ep, kp' _ o (Ne.symm fz.2.1) (Ne.symm fo.2.1) (Ne.symm fi.2.1) (Ne.symm fj.2.1) ho, r⟩
      · by_cases hb : b = s.heap.objs.size
        · subst hb
          rw [upd_same] at e
          cases e
          exact ⟨by show 2 ≤ sizeLine; rw [sizeLine_eq]; decide, [u, v], .cons r1 (.cons r2 .nil), ⟨_, new', rfl, 0, rfl⟩⟩
        · rw [upd_ne hb] at e
          refine (I.hok b o e).stay (fun c v' hcc r => ?_) (fun c r => by rw [upd_ne (ne_of_none r nT)]; exact r) fun c xs r => by rw [upd_ne (ne_of_none r nT)]; exact r
          rcases hcc with rfl | hcc
          · obtain ⟨n1, n2, n3, n4⟩ := trk c o e
            exact kp' c v' n1 n2 n3 n4 r
          · obtain ⟨n1, n2, n3, n4⟩ := trk c _ hcc
            exact kp' c v' n1 n2 n3 n4 r
    refine ⟨.ref s.heap.objs.size, _, I1, rfl, ⟨_, x, y, rfl, nT, rfl, fun xs' ys' h1 h2 => ?_⟩, ?_, fun b hb => ?_⟩
    · rw [I.tuple_inj h1 hp, I.list_inj h2 hq]
      exact ⟨hx, hy⟩
    · obtain ⟨a1, a2, ⟨c1, c2, a3⟩, a4, a5⟩ := Zg
      exact ⟨z', b'.extBut _ _ D.TIz a2, ⟨c1, c2, b'.extBut _ _ D.TOz a3⟩, a4.extBut b'.extBut D.i1z, a5.extBut b'.extBut D.i2z⟩
    · have hb' : ∃ o, s.heap.get? b = some o := by
        obtain ⟨a1, a2, ⟨c1, c2, a3⟩, ⟨o4, a4, _⟩, ⟨o5, a5, _⟩⟩ := st
        simp only [List.mem_cons, List.not_mem_nil, or_false] at hb
        rcases hb with rfl | rfl | rfl | rfl | rfl
        · exact ⟨_, a1⟩
        · exact ⟨_, a2⟩
        · exact ⟨_, a3⟩
        · exact ⟨_, a4⟩
        · exact ⟨_, a5⟩
      obtain ⟨o, e⟩ := hb'
      rw [upd_ne (Nat.ne_of_lt (Heap.lt_size e))]
      exact (hf b hb).1
  done := by
    intro X hP hw hK hc k pins s σ H E I hf st hg
    subst hP hw hK
    obtain ⟨xs, ys, hp, hq, hend⟩ := hg
    obtain ⟨us, ru, pu, _⟩ := I.tuple hp
    obtain ⟨vs, rv, pv, _⟩ := I.list hq
    have l1 := ru.length
    have l2 := rv.length
    have hT : s.TypeIs (.ref z) "zip" := ⟨_, st.zz, rfl⟩
    unfold pyNext
    refine wpAny_bind (wpAny_attempt (wpAny_callSpecial?_slot (name := Str.ofString "__next__") hT F.slot_zip_next (wpAny_call_entry F.slot_zip_next hT F.entry_zip_next (zipM_stop (I.ok.hd hc) D st (show s.heap.IsTuple p us.toArray from pu) pv.isList ?_ fun g e kp ⟨o, ho, hcl⟩ => ?_) (F.args_zip_next_1 _))))
    · rcases hend with h | h
      · exact .inl (by simp; omega)
      · exact .inr (by simp; omega)
    · refine wpAny_bind (wpAny_isInstance (T := "StopIteration") (b := true) ⟨o, ho, hcl⟩ isSubtype_stop ?_)
      refine wpAny_pure ⟨rfl, ?_⟩
      have fz := hf z (by simp)
      have fo := hf to (by simp)
      have fi := hf i (by simp)
      have fj := hf j (by simp)
      have notch : ∀ b, b ∉ [z, to, i, j] → b ≠ z ∧ b ≠ to ∧ b ≠ i ∧ b ≠ j := fun b hb => by simpa using hb
      have trk : ∀ b o, H b = some o → b ≠ z ∧ b ≠ to ∧ b ≠ i ∧ b ≠ j := fun b o e => ⟨ne_of_none e fz.1, ne_of_none e fo.1, ne_of_none e fi.1, ne_of_none e fj.1⟩
      refine I.step (g' := s.gens) (d' := s.drawn) (t' := s.toks) (ch := [z, to, i, j]) (fun b hb => ?_) (fun b o _ _ hc e _ => ?_) (fun b o _ _ hc e _ => ?_) (fun b o hc e n => n) (fun b o hc e => ?_) (fun b xs e => e) (fun b o u e => e) (fun b ps e => ⟨#[], by rw [e]; simp⟩) (fun m hm => ?_) (fun b o e => ?_) I.bare
      · simp only [List.mem_cons, List.not_mem_nil, or_false] at hb
        rcases hb with rfl | rfl | rfl | rfl
        · exact ⟨fz.2.2.2.1, fz.2.1, fz.2.2.2.2.1, fz.2.2.2.2.2⟩
        · exact ⟨fo.2.2.2.1, fo.2.1, fo.2.2.2.2.1, fo.2.2.2.2.2⟩
        · exact ⟨fi.2.2.2.1, fi.2.1, fi.2.2.2.2.1, fi.2.2.2.2.2⟩
        · exact ⟨fj.2.2.2.1, fj.2.1, fj.2.2.2.2.1, fj.2.2.2.2.2⟩
      · obtain ⟨n1, n2, n3, n4⟩ := notch b hc
        exact kp b o n1 n2 n3 n4 e
      · obtain ⟨n1, n2, n3, n4⟩ := notch b hc
        exact ⟨o.slots, kp b o n1 n2 n3 n4 e⟩
      · obtain ⟨n1, n2, n3, n4⟩ := notch b hc
        exact ⟨o, kp b o n1 n2 n3 n4 e⟩
      · obtain ⟨o, es, ep, ho, r⟩ := hm
        exact ⟨o, es, ep, kp _ o (Ne.symm fz.2.1) (Ne.symm fo.2.1) (Ne.symm fi.2.1) (Ne.symm fj.2.1) ho, r⟩
      · refine (I.hok b o e).stay (fun c v' hcc r => ?_) (fun _ r => r) fun _ _ r => r
        rcases hcc with rfl | hcc
        · obtain ⟨n1, n2, n3, n4⟩ := trk c o e
          exact kp c v' n1 n2 n3 n4 r
        · obtain ⟨n1, n2, n3, n4⟩ := trk c _ hcc
          exact kp c v' n1 n2 n3 n4 r
  self := fun _ _ _ _ _ st h => wpAny_pyIter_zip st.zz h
section
variable {X : Cx} {es : List Expr} {kk : Nat} {tpos : Pos}
def iZipM (K : PySem.W.Frag) (ta : TA) : TI := fun σ H R => ta σ H fun vs H1 => ∃ p q, vs = [.ref p, .ref q] ∧ (∃ xs, SqT K H1 p xs) ∧ (∃ ys, SqL K H1 q ys) ∧ R (ItzM K p q) H1
theorem pi_zipM {a b : Expr} {ta : TA} {p pos : Pos} (hm : X.mg "zip" = none) (ha : PA X [a, b] ta) (hg : Gl X "zip" := by rfl) (hs : starEach [a, b] X.env = [(false, eval a X.env), (false, eval b X.env)] := by rfl) (hs2 : starEach [b] X.env = [(false, eval b X.env)] := by rfl) :
    PI X (.Tuple es kk tpos) (.Call (.Name "zip" p) [a, b] [] pos) (iZipM X.K ta) := by
  intro pins s σ H R I h
  refine Call_ (ld_blt I hg hm bt_zip (PyProof.Rows.callWith_type1 (thn (ha pos pins s σ H _ I h) fun us s1 ⟨vs, H1, I1, r1, q1⟩ => ?_) (by rw [hs, hs2]) (by rw [hs2]; rfl)))
  obtain ⟨x, y, e, ⟨xs, hx⟩, ⟨ys, hy⟩, q⟩ := q1
  subst e
  obtain ⟨u, v, rfl, ru, rv⟩ := vals2 r1
  cases ru; cases rv
  obtain ⟨us, _, px, _⟩ := I1.tuple hx
  obtain ⟨vs, _, py, _⟩ := I1.list hy
  have lx : x < s1.heap.objs.size := px.lt
  have ly : y < s1.heap.objs.size := by
    obtain ⟨o, ho, _⟩ := py.isList
    exact Heap.lt_size ho
  refine call_zipM (show s1.heap.IsTuple x us.toArray from px) py.isList fun g Zg sz kp => ?_
  refine wpAny_pyIter_zip Zg.zz ?_
  refine ⟨_, _, _, _, H1, rfl, I1.kept (t' := s1.toks) kp, turn_zipM x y _ _ _ _ _ (zipApart_new lx ly), Zg, fun b hb => ?_, q⟩
  have hge : s1.heap.objs.size ≤ b := by
    simp only [List.mem_cons, List.not_mem_nil, or_false] at hb
    rcases hb with rfl | rfl | rfl | rfl | rfl <;> omega
  exact I1.fpOk hge (I1.hok.fresh hge)
theorem for_zipM {K : PySem.W.Frag} {p r : Addr} {xs ys : List V} {n : Nat} {g : TG} {tb : TS} {D : Ends} {σ : St} {H : Hp} (hn : n = min xs.length ys.length) (Pv : Nat → St → Hp → Prop) (h0 : Pv 0 σ H) (hl : ∀ i σ H, i ≤ n → Pv i σ H → SqT K H p xs ∧ SqL K H r ys)
    (hs : ∀ i T x y σ H, xs[i]? = some x → ys[i]? = some y → Pv i σ H → H T = none → g (.ref T) σ (upd H T (.tup [x, y])) fun σ2 H2 => tb { D with nx := Pv (i + 1), ct := Pv (i + 1), bk := D.nx } σ2 H2) (hd : ∀ σ H, Pv n σ H → D.nx σ H) :
    ∃ W : Nat → Nat → St → Hp → Prop, (∃ m, W 0 m σ H) ∧ ∀ i m σ H, W i m σ H →
      ((ItzM K p r).stop i H ∧ D.nx σ H) ∨ ((ItzM K p r).go i H ∧ ∃ N : St → Hp → Prop, (∀ σ' H', N σ' H' → ∃ m', m' < m ∧ W (i + 1) m' σ' H') ∧ ∀ x H', (ItzM K p r).yld i H x H' → g x σ H' fun σ2 H2 => tb { D with nx := N, ct := N, bk := D.nx } σ2 H2) := by
  refine ⟨fun i m σ H => m = n - i ∧ i ≤ n ∧ Pv i σ H, ⟨n, by simp, Nat.zero_le _, h0⟩, ?_⟩
  rintro i m σ H ⟨rfl, hi, pp⟩
  obtain ⟨q1, q2⟩ := hl i σ H hi pp
  by_cases hlt : i < n
  · have l1 : i < xs.length := by omega
    have l2 : i < ys.length := by omega
    refine .inr ⟨⟨xs, ys, xs[i], ys[i], q1, q2, by simp [l1], by simp [l2]⟩, Pv (i + 1), fun σ' H' p' => ⟨n - (i + 1), by omega, rfl, hlt, p'⟩, fun v H' y => ?_⟩
    obtain ⟨T, x, y, rfl, hT, rfl, hxy⟩ := y
    obtain ⟨e1, e2⟩ := hxy xs ys q1 q2
    exact hs i T x y σ H e1 e2 pp hT
  · have e : i = n := by omega
    subst e
    exact .inl ⟨⟨xs, ys, q1, q2, by omega⟩, hd σ H pp⟩
end
end L2

set_option Elab.async false
set_option linter.all false
set_option maxRecDepth 100000
set_option maxHeartbeats 1000000
namespace Law
open PySem L2
def top (i : Nat) : Stmt := PySem.Challenge.pw_ledtowish_k32_whole_long_rows_of_sides.main.body.getD i (.Pass ⟨0, 0, 0, 0⟩)
section
variable {P : Program} {w : World} {K : PySem.W.Frag} {mg : Str → Option Value} {base : Heap}
theorem cut_lo (xs : List V) {a : Nat} (h : a ≤ xs.length) : cutV xs none (some (a : Int)) = xs.take a := by
  unfold cutV
  show (xs.drop 0).take (min a xs.length - 0) = xs.take a
  rw [List.drop_zero, Nat.sub_zero, Nat.min_eq_left h]
theorem cut_hi (xs : List V) {a : Nat} (h : a ≤ xs.length) : cutV xs (some (a : Int)) none = xs.drop a := by
  unfold cutV
  show (xs.drop (min a xs.length)).take (xs.length - min a xs.length) = xs.drop a
  rw [Nat.min_eq_left h, ← List.length_drop, List.take_length]
theorem same_none {H H' : Hp} {p : Addr} (s : Same H H') (h : H' p = none) : H p = none := by
  cases e : H p with
  | none => rfl
  | some o => rw [s _ _ e] at h; cases h
theorem same_upd {H H' : Hp} {p : Addr} {o : HO} (s : Same H H') (h : H p = none) : Same H (upd H' p o) := fun b u e => by rw [upd_ne (ne_of_none e h)]; exact s b u e
def spWES : Sp := fun vs H Q _ => ∃ (d : Addr) (n : Int) (ps : Ps), vs = [.ref d, .int n] ∧ H d = some (.dK (ps.map kvI)) ∧ ps.length ≤ 100000 ∧
  ∀ (p : Addr) (H' : Hp), (∀ b u, b ≠ d → H b = some u → H' b = some u) → Rd H' d (.dK (ps.map kvI)) → H p = none → H' p = some (.dK ((either n ps).map kvI)) → Q (.ref p) H'
abbrev s_with_either_sign : Stmt := top 11
theorem sc_with_either_sign : FnScope ["many", "number", "more", "come", "ways", "side", "put"] ["many", "number"] (defScope s_with_either_sign) := ⟨rfl, rfl, rfl, by decide +kernel, rfl, by decide +kernel, by decide +kernel⟩
theorem ok_wes {f : Addr} {fd : FuncData} (F : Fun K "with_either_sign" "with_either_sign" s_with_either_sign f fd) : FnOk P w K mg base CX0 1 f fd ["many", "number"] spWES := by
  refine F.ok (k := 0) sc_with_either_sign (fun vs H Q E h => ?_) (fun cdv A outer s H vs Q E hr h => ?_)
  · obtain ⟨d, n, ps, rfl, _⟩ := h
    rfl
  obtain ⟨d, n, ps, rfl, rd, hz, q⟩ := h
  refine ⟨_, (pss_cons (ps_set (i := 2) sc_with_either_sign.nd rfl (by first | exact Or.inl rfl | exact Or.inr rfl) pe_dnewK)
      (pss_cons (ps_for PassesOwn.never rfl (pi_itemsD (pv 0)) (pg_tup rfl (pgs_cons (pg_name (i := 3) sc_with_either_sign.nd rfl (by first | exact Or.inl rfl | exact Or.inr rfl)) (pgs_cons (pg_name (i := 4) sc_with_either_sign.nd rfl (by first | exact Or.inl rfl | exact Or.inr rfl)) pgs_nil))) (pss_one (ps_for PassesOwn.never rfl (pi_tup (pe_tup (pa_cons pe_int (pa_cons (pe_un un_neg pe_int) pa_nil)))) (pg_name (i := 5) sc_with_either_sign.nd rfl (by first | exact Or.inl rfl | exact Or.inr rfl)) (pss_cons (ps_set (i := 6) sc_with_either_sign.nd rfl (by first | exact Or.inl rfl | exact Or.inr rfl) (pe_op op_add (pv 3) (pe_op op_mul (pv 5) (pv 1))))
      (pss_one (ps_dput (hu_of hr) (pv 2) (pv 6) (pe_op op_add (pe_dget2 (hu_of hr) (pv 2) (pv 6) pe_int ⟨rfl, rfl, rfl, rfl⟩) (pv 4)) rfl))))))
      (pss_one (ps_ret (pv 2))))), ?_⟩
  have szl := sizeLine_eq
  refine fun pm hpm => ?_
  have nd : d ≠ pm := ne_of_none rd hpm
  refine ⟨_, rfl, d, ps.map kvI, rfl, ?_⟩
  · refine .inl ⟨by rw [upd_ne nd]; exact rd, fun ob => ?_⟩
    refine for_itemsD (d := d) (o := ob) (kvs := ps.map kvI) (fun i σ H' => ∃ (z1 z2 z3 z4 : Option V), σ = [some (.ref d), some (.int n), some (.ref pm), z1, z2, z3, z4] ∧ (∀ b u, b ≠ d → H b = some u → H' b = some u) ∧ H' d = some (.frz ob (.dK (ps.map kvI))) ∧ H' pm = some (.dK (((ps.take i).foldl (stepE n) []).map kvI)))
      ⟨none, none, none, none, rfl, fun b u nb e => by rw [upd_ne nb, upd_ne (ne_of_none e hpm)]; exact e, upd_same, by rw [upd_ne (Ne.symm nd), upd_same]; rfl⟩ (fun i σ H' ⟨_, _, _, _, _, _, h, _⟩ => h) ?_ ?_
    · rintro i T ky x σ H' hk ⟨z1, z2, z3, z4, rfl, ext, fz, gm⟩ hT
      rw [List.getElem?_map] at hk
      obtain ⟨⟨c, v⟩, hc, he⟩ : ∃ p, ps[i]? = some p ∧ kvI p = (ky, x) := by
        cases e : ps[i]? with
        | none => rw [e] at hk; cases hk
        | some p => rw [e] at hk; exact ⟨p, rfl, by simpa using hk⟩
      unfold kvI at he
      simp only [Prod.mk.injEq] at he
      obtain ⟨rfl, rfl⟩ := he
      have hil := (List.getElem?_eq_some_iff.mp hc).1
      have sT := Same.new (o := .tup [kV (Sum.inl c), V.int v]) hT
      refine ⟨T, _, rfl, SqT.of upd_same, rfl, ?_⟩
      refine ⟨_, _, rfl, _, _, rfl, rfl, ?_⟩
      refine ⟨_, rfl, (by show 2 ≤ sizeLine; decide), fun pt hpt => ?_⟩
      have sP := Same.new (o := .tup [V.int 1, V.int (-1)]) hpt
      have s2 := sT.trans sP
      have hft := len_fold n (ps.take i) []
      rw [List.length_nil, List.length_take] at hft
      refine ⟨pt, rfl, ⟨_, SqT.of upd_same⟩, for_tup (K := K) (a := pt) (xs := [.int 1, .int (-1)]) (fun j σ H2 => ∃ (z3 z4 : Option V), σ = [some (.ref d), some (.int n), some (.ref pm), some (.int c), some (.int v), z3, z4] ∧ (∀ b u, b ≠ d → H b = some u → H2 b = some u) ∧ H2 d = some (.frz ob (.dK (ps.map kvI))) ∧ H2 pt = some (.tup [.int 1, .int (-1)]) ∧ H2 pm = some (.dK ((([1, -1] : List Int).take j).foldl (fun acc sd => stepA n acc (c, v) sd) ((ps.take i).foldl (stepE n) []) |>.map kvI)))
        ⟨_, _, rfl, fun b u nb e => s2 _ _ (ext b u nb e), s2 _ _ fz, upd_same, s2 _ _ gm⟩ (fun j σ H2 _ ⟨_, _, _, _, _, h, _⟩ => SqT.of h) ?_ ?_⟩
      · rintro j y σ H2 hj ⟨z3, z4, rfl, ext2, fz2, gt2, gm2⟩
        obtain ⟨sd, rfl, hsd, hlast⟩ : ∃ sd : Int, y = .int sd ∧ (sd = 1 ∨ sd = -1) ∧ ([1, -1] : List Int)[j]? = some sd := by
          match j, hj with
          | 0, hj => simp at hj; exact ⟨1, hj.symm, .inl rfl, rfl⟩
          | 1, hj => simp at hj; exact ⟨-1, hj.symm, .inr rfl, rfl⟩
          | j + 2, hj => simp at hj
        have hj2 : j ≤ 1 := by have := (List.getElem?_eq_some_iff.mp hlast).1; simp at this; omega
        obtain ⟨Q0, hQ0⟩ : ∃ Q0, Q0 = (([1, -1] : List Int).take j).foldl (fun acc sd => stepA n acc (c, v) sd) ((ps.take i).foldl (stepE n) []) := ⟨_, rfl⟩
        rw [← hQ0] at gm2
        have hlen : Q0.length ≤ 2 * ps.length + 1 := by
          rw [hQ0]
          match j, hj2 with
          | 0, _ => show ((ps.take i).foldl (stepE n) []).length ≤ _; omega
          | 1, _ =>
            have : (stepA n ((ps.take i).foldl (stepE n) []) (c, v) 1).length ≤ ((ps.take i).foldl (stepE n) []).length + 1 := put_len _ _ _
            show (stepA n ((ps.take i).foldl (stepE n) []) (c, v) 1).length ≤ _
            omega
        refine ⟨_, rfl, _, rfl, _, rfl, _, _, rfl, rfl, .inl (by rcases hsd with rfl | rfl <;> exact ⟨by decide, by decide⟩), _, _, rfl, rfl, ?_⟩
        refine ⟨_, rfl, pm, rfl, .inl ⟨_, .inl gm2⟩, _, rfl, _, DGet.k (k := Sum.inl (c + sd * n)) gm2, _, rfl, look Q0 (c + sd * n), v, val_kv _ _, rfl, ?_⟩
        refine ⟨_, rfl, _, rfl, pm, _, rfl, DPut.k (k := Sum.inl (c + sd * n)) gm2 (by rw [List.length_map, szl]; omega), ?_⟩
        have npd : pm ≠ d := fun z => by rw [z, fz2] at gm2; cases gm2
        have npt : pt ≠ pm := fun z => by rw [z, gm2] at gt2; cases gt2
        refine ⟨_, _, rfl, fun b u nb e => ?_, by rw [upd_ne (Ne.symm npd)]; exact fz2, by rw [upd_ne npt]; exact gt2, ?_⟩
        · rw [upd_ne (ne_of_none e hpm)]; exact ext2 b u nb e
        · rw [upd_same, put_kv]
          have e5 : ([1, -1] : List Int).take (j + 1) = ([1, -1] : List Int).take j ++ [sd] := take_snoc hlast
          rw [e5, List.foldl_append, ← hQ0]
          rfl
      · rintro σ H2 ⟨z3, z4, rfl, ext2, fz2, gt2, gm2⟩
        refine ⟨_, _, _, _, rfl, ext2, fz2, ?_⟩
        rw [gm2, take_snoc hc, List.foldl_append]
        rfl
    · rintro σ H' ⟨z1, z2, z3, z4, rfl, ext, fz, gm⟩
      rw [List.length_map, List.take_length] at gm
      exact ⟨_, rfl, q pm H' ext (.inr ⟨_, fz⟩) hpm gm⟩
end
end Law

set_option Elab.async false
set_option linter.all false
set_option maxRecDepth 100000
set_option maxHeartbeats 1000000
namespace Law
open PySem L2
section
variable {P : Program} {w : World} {K : PySem.W.Frag} {mg : Str → Option Value} {base : Heap}
def sfx : List Int → List (List Int)
  | [] => [[]]
  | n :: r => (n :: r) :: sfx r
theorem sfx_len : ∀ r : List Int, (sfx r).length = r.length + 1
  | [] => rfl
  | n :: r => by show (sfx r).length + 1 = _; rw [sfx_len r]; rfl
def Dc (H : Hp) (v : V) (ns : List Int) : Prop := ∃ d, v = .ref d ∧ Rd H d (.dK ((dic ns).map kvI))
def DcF (H0 H : Hp) (v : V) (ns : List Int) : Prop := ∃ d, v = .ref d ∧ Rd H d (.dK ((dic ns).map kvI)) ∧ H0 d = none
theorem rd_keep {H H' : Hp} {d : Addr} {u : HO} (k : ∀ o, H d = some o → H' d = some o) (h : Rd H d u) : Rd H' d u := by
  rcases h with h | ⟨o, h⟩
  · exact .inl (k _ h)
  · exact .inr ⟨o, k _ h⟩
theorem rd_one {H : Hp} {d : Addr} {k1 k2 : List (Key × V)} (h1 : Rd H d (.dK k1)) (h2 : Rd H d (.dK k2)) : k1 = k2 := by
  rcases h1 with h1 | ⟨o1, h1⟩ <;> rcases h2 with h2 | ⟨o2, h2⟩ <;> rw [h1] at h2 <;> first | (cases h2; rfl) | cases h2
def spSB (K : PySem.W.Frag) : Sp := fun vs H Q _ => ∃ (a : Addr) (r0 : Int) (rest : List Int), vs = [.ref a] ∧ (∀ H' : Hp, Same H H' → SqT K H' a ((r0 :: rest).map V.int)) ∧ RowS rest ∧
  ∀ (p : Addr) (ys : List V) (H' : Hp), Same H H' → H p = none → H' p = some (.lst ys) → Paired (Dc H') ys (sfx rest) → Q (.ref p) H'
theorem last_atV (xs : List V) (x : V) : atI (xs ++ [x]) (-1) = some x := by
  unfold atI ixN
  rw [if_neg (by decide), if_pos (by rw [List.length_append]; show -((xs.length + 1 : Nat) : Int) ≤ -1; omega)]
  show (xs ++ [x])[(-1 + ((xs ++ [x]).length : Int)).toNat]? = some x
  have : (-1 + ((xs ++ [x]).length : Int)).toNat = xs.length := by rw [List.length_append]; show (-1 + ((xs.length + 1 : Nat) : Int)).toNat = _; omega
  rw [this]; simp
theorem dc_move {H0 H H' : Hp} {d : Addr} {ps : Ps} (hd : Rd H d (.dK (ps.map kvI))) (hd' : Rd H' d (.dK (ps.map kvI))) (k : ∀ b u, b ≠ d → H b = some u → H' b = some u) : ∀ v ns, DcF H0 H v ns → DcF H0 H' v ns := by
  rintro v ns ⟨e, rfl, h1, h2⟩
  refine ⟨e, rfl, ?_, h2⟩
  by_cases he : e = d
  · subst he
    rw [rd_one h1 hd]; exact hd'
  · exact rd_keep (fun o ho => k e o he ho) h1
abbrev s_sums_behind : Stmt := top 10
theorem sc_sums_behind : FnScope ["row", "sums", "number"] ["row"] (defScope s_sums_behind) := ⟨rfl, rfl, rfl, by decide +kernel, rfl, by decide +kernel, by decide +kernel⟩
theorem ok_sb {f : Addr} {fd : FuncData} (F : Fun K "sums_behind" "sums_behind" s_sums_behind f fd) (Gwes : Def P w K mg base CX0 1 "with_either_sign" spWES) : FnOk P w K mg base CX0 2 f fd ["row"] (spSB K) := by
  refine F.okW (k := 1) sc_sums_behind (fun vs H Q E h => ?_) (fun cdv A outer s H vs Q E hr h => ?_)
  · obtain ⟨a, r0, rest, rfl, _⟩ := h
    rfl
  obtain ⟨a, r0, rest, rfl, ha, hl, q⟩ := h
  refine ⟨_, (wss_cons (w_set (i := 1) sc_sums_behind.nd rfl (by first | exact Or.inl rfl | exact Or.inr rfl) (w_lst (w_cons (Wr.mk (pe_disp (pps_cons pe_int pe_int pps_nil) rfl rfl (by simp) (by decide))) w_nil)))
      (wss_cons (Wr.mk (ps_for PassesOwn.never rfl (pi_tup (pe_revT0 (pv 0))) (pg_name (i := 2) sc_sums_behind.nd rfl (by first | exact Or.inl rfl | exact Or.inr rfl)) (pss_one (ps_expr (pe_bm PySem.F.plainAttrs_list PySem.F.slot_list_append PySem.F.type_list_append mt_append (pv 1) (pa_cons (pe_def Gwes (hr.mono (by omega)) (pa_cons (pe_ix ix_list (pv 1) (pe_un un_neg pe_int) (fun _ _ => rfl)) (pa_cons (pv 2) pa_nil))) pa_nil))))))
      (wss_one (Wr.mk (ps_ret (pe_rev (pv 1))))))), ?_⟩
  have szl := sizeLine_eq
  refine fun pd hpd => ⟨upd_same, [(Sum.inl 0, .int 1)], rfl, by decide, (by show 1 ≤ sizeLine; decide), fun pl hpl => ?_⟩
  have e0 : mergeK [] [((Sum.inl 0 : Key), V.int 1)] = (dic []).map kvI := rfl
  rw [e0] at hpl ⊢
  have gd : (upd (upd H pd (.dK [])) pd (.dK ((dic []).map kvI))) pd = some (.dK ((dic []).map kvI)) := upd_same
  have sd : Same H (upd (upd H pd (.dK [])) pd (.dK ((dic []).map kvI))) := fun b u e => by rw [upd_ne (ne_of_none e hpd), upd_ne (ne_of_none e hpd)]; exact e
  generalize upd (upd H pd (.dK [])) pd (.dK ((dic []).map kvI)) = H1 at gd sd hpl ⊢
  have s2 := sd.trans (Same.new (o := .lst [V.ref pd]) hpl)
  refine ⟨_, rfl, a, .int r0, rest.map V.int, rfl, ha _ s2, fun pr hpr => ?_⟩
  have s3 := Same.new (o := .tup (rest.map V.int).reverse) hpr
  have npl : H pl = none := same_none sd hpl
  refine ⟨pr, rfl, ⟨_, SqT.of upd_same⟩, for_tup (K := K) (a := pr) (xs := (rest.map V.int).reverse) (fun i σ H' => ∃ (z : Option V) (ys0 : List V) (d0 : Addr), σ = [some (.ref a), some (.ref pl), z] ∧ Same H H' ∧ H' pl = some (.lst (ys0 ++ [V.ref d0])) ∧ H' pr = some (.tup (rest.map V.int).reverse) ∧ Paired (DcF H H') (ys0 ++ [V.ref d0]).reverse (sfx (rest.drop (rest.length - i))) ∧ H d0 = none ∧ H' d0 = some (.dK ((dic (rest.drop (rest.length - i))).map kvI)))
    ⟨none, [], pd, rfl, s2.trans s3, s3 _ _ upd_same, upd_same, ?_, hpd, ?_⟩ (fun i σ H' _ ⟨_, _, _, _, _, _, h, _⟩ => SqT.of h) ?_ ?_⟩
  · rw [Nat.sub_zero, List.drop_length]
    exact .cons ⟨pd, rfl, .inl (s3 _ _ (Same.new hpl _ _ gd)), hpd⟩ .nil
  · rw [Nat.sub_zero, List.drop_length]
    exact s3 _ _ (Same.new hpl _ _ gd)
  · rintro i x σ H' hi ⟨z, ys0, d0, rfl, sH, gl, gr, py, n0, g0⟩
    have hil : i < rest.length := by have := (List.getElem?_eq_some_iff.mp hi).1; simpa using this
    obtain ⟨n, hn⟩ : ∃ n, rest[rest.length - (i + 1)]? = some n := ⟨_, List.getElem?_eq_getElem (by omega)⟩
    have ex : x = .int n := by
      rw [List.getElem?_reverse (by rw [List.length_map]; exact hil), List.length_map, List.getElem?_map, show rest.length - 1 - i = rest.length - (i + 1) by omega, hn] at hi
      simpa using hi.symm
    subst ex
    have ed : rest.drop (rest.length - (i + 1)) = n :: rest.drop (rest.length - i) := by
      have hlt : rest.length - (i + 1) < rest.length := by omega
      rw [List.drop_eq_getElem_cons hlt, show rest.length - (i + 1) + 1 = rest.length - i by omega]
      congr 1
      rw [List.getElem?_eq_getElem hlt] at hn
      exact Option.some.inj hn
    have yl : (ys0 ++ [V.ref d0]).length ≤ 40 := by
      have hl1 := hl.1
      have := py.length
      rw [List.length_reverse, sfx_len, List.length_drop] at this
      omega
    refine ⟨_, rfl, .inl ⟨rfl, _, SqL.of gl⟩, _, rfl, _, rfl, pl, _, -1, .ref d0, rfl, rfl, SqL.of gl, last_atV _ _, _, rfl, d0, n, dic (rest.drop (rest.length - i)), rfl, g0, Nat.le_trans (dic_lenS (hl.drop _)) (by decide), fun pn H2 ext rd2 nn gn => ?_⟩
    have npd : pl ≠ d0 := fun z => by rw [z, g0] at gl; cases gl
    have nrd : pr ≠ d0 := fun z => by rw [z, g0] at gr; cases gr
    have gl2 := ext pl _ npd gl
    have gr2 := ext pr _ nrd gr
    have sH2 : Same H H2 := fun b u e => ext b u (ne_of_none e n0) (sH _ _ e)
    have npn : H pn = none := same_none sH nn
    refine ⟨pl, _, _, rfl, rfl, gl2, by rw [szl]; omega, ?_⟩
    have nlr : pr ≠ pl := fun z => by rw [z, gl2] at gr2; cases gr2
    have nln : pn ≠ pl := fun z => by rw [z, gl2] at gn; cases gn
    refine ⟨_, ys0 ++ [V.ref d0], pn, rfl, same_upd sH2 npl, upd_same, by rw [upd_ne nlr]; exact gr2, ?_, npn, by rw [upd_ne nln, gn, ed]; rfl⟩
    rw [List.reverse_append, ed]
    show Paired _ (V.ref pn :: (ys0 ++ [V.ref d0]).reverse) ((n :: rest.drop (rest.length - i)) :: sfx (rest.drop (rest.length - i)))
    have kd : ∀ v ns, DcF H H2 v ns → DcF H (upd H2 pl (.lst (ys0 ++ [V.ref d0] ++ [V.ref pn]))) v ns := by
      rintro v ns ⟨e, rfl, h1, h2⟩
      refine ⟨e, rfl, rd_keep (fun o ho => ?_) h1, h2⟩
      have : e ≠ pl := fun z => by
        rcases h1 with h1 | ⟨_, h1⟩ <;> (rw [z, gl2] at h1; cases h1)
      rw [upd_ne this]; exact ho
    refine .cons (kd _ _ ⟨pn, rfl, .inl gn, npn⟩) ?_
    exact L2.Paired.mapP py fun v x h => kd v x (dc_move (.inl g0) rd2 ext v x h)
  · rintro σ H' ⟨z, ys0, d0, rfl, sH, gl, gr, py, n0, g0⟩
    rw [List.length_reverse, List.length_map, Nat.sub_self, List.drop_zero] at py
    refine ⟨_, rfl, pl, _, rfl, SqL.of gl, fun pp hpp => ?_⟩
    refine q pp _ _ (sH.trans (Same.new hpp)) (same_none sH hpp) upd_same (L2.Paired.mapP py ?_)
    rintro v x ⟨e, rfl, h1, _⟩
    exact ⟨e, rfl, rd_keep (fun o ho => Same.new hpp _ _ ho) h1⟩
end
end Law

set_option Elab.async false
set_option linter.all false
set_option maxRecDepth 100000
set_option maxHeartbeats 1000000
namespace Law
open PySem L2
section
variable {P : Program} {w : World} {K : PySem.W.Frag} {mg : Str → Option Value} {base : Heap}
theorem strict_len {ks xs : List Int} (hk : ks.Pairwise (· < ·)) (hx : xs.Nodup) (h : ∀ m, m ∈ ks ↔ m ∈ xs) : ks.length ≤ xs.length :=
  nodup_le (hk.imp fun h => by omega) fun m hm => (h m).mp hm
theorem sfx_get : ∀ (r : List Int) (i : Nat), i ≤ r.length → (sfx r)[i]? = some (r.drop i)
  | [], 0, _ => rfl
  | n :: r, 0, _ => rfl
  | n :: r, i + 1, h => by
    show (sfx r)[i]? = some (r.drop i)
    exact sfx_get r i (by simpa using h)
theorem cutLo1 (r0 : Int) (rest : List Int) : cutV (List.map V.int (r0 :: rest)) none (some 1) = [r0].map V.int := cut_lo (a := 1) _ (by simp)
theorem cutHi1 (r0 : Int) (rest : List Int) : cutV (List.map V.int (r0 :: rest)) (some 1) none = rest.map V.int := cut_hi (a := 1) _ (by simp)
theorem dc_head {H : Hp} {ys : List V} {rest : List Int} (py : Paired (Dc H) ys (sfx rest)) : ∃ d, atI ys 0 = some (.ref d) ∧ Rd H d (.dK ((dic rest).map kvI)) := by
  obtain ⟨x, h1, d, rfl, h2⟩ := pr_get2 py (sfx_get rest 0 (Nat.zero_le _))
  exact ⟨d, atI_nat (j := 0) h1, h2⟩
theorem rd_same {H H' : Hp} {d : Addr} {u : HO} (s : Same H H') (h : Rd H d u) : Rd H' d u := rd_keep (fun o ho => s _ _ ho) h
def spMany (K : PySem.W.Frag) : Sp := fun vs H Q _ => ∃ (a : Addr) (r0 : Int) (rest : List Int) (wish : Int), vs = [.ref a, .int wish] ∧ (∀ H' : Hp, Same H H' → SqT K H' a ((r0 :: rest).map V.int)) ∧ RowS rest ∧
  ∀ (H' : Hp), Same H H' → Q (.int ((dueS rest (wish - r0)).length : Int)) H'
abbrev s_sides_many : Stmt := top 7
theorem sc_sides_many : FnScope ["row", "wish"] ["row", "wish"] (defScope s_sides_many) := ⟨rfl, rfl, rfl, by decide +kernel, rfl, by decide +kernel, by decide +kernel⟩
theorem ok_many {f : Addr} {fd : FuncData} (F : Fun K "sides_many" "sides_many" s_sides_many f fd) (B : Blt mg) (Gsb : Def P w K mg base CX0 2 "sums_behind" (spSB K)) : FnOk P w K mg base CX0 3 f fd ["row", "wish"] (spMany K) := by
  refine F.ok (k := 2) sc_sides_many (fun vs H Q E h => ?_) (fun cdv A outer s H vs Q E hr h => ?_)
  · obtain ⟨a, r0, rest, wish, rfl, _⟩ := h
    rfl
  obtain ⟨a, r0, rest, wish, rfl, ha, hl, q⟩ := h
  refine ⟨_, (pss_one (ps_ret (pe_dget2 (hu_of hr) (pe_ix ix_list (pe_def Gsb (hr.mono (by omega)) (pa_cons (pv 0) pa_nil)) pe_int (fun _ _ => rfl)) (pe_op op_sub (pv 1) (pe_callB (call_sumT rfl) rfl B.sum bt_sum (pa_cons (pe_slice sl_tupS (pv 0) po_none (po_some pe_int)) pa_nil))) pe_int ⟨rfl, rfl, rfl, rfl⟩))), ?_⟩
  refine ⟨_, rfl, a, r0, rest, rfl, ha, hl, fun p ys H1 s1 _ g1 py => ?_⟩
  obtain ⟨d, hd, rd⟩ := dc_head py
  refine ⟨p, ys, 0, .ref d, rfl, rfl, SqL.of g1, hd, d, rfl, .inl ⟨_, rd⟩, _, rfl, _, rfl, 1, rfl, a, _, rfl, fun H' s' => ha H' (s1.trans s'), fun pz Hz sz hz => ?_⟩
  rw [cutLo1] at hz
  refine ⟨pz, [r0], rfl, hz Hz (fun _ _ e => e), ?_⟩
  rw [show [r0].sum = r0 by simp]
  refine ⟨_, _, rfl, rfl, _, .inl ⟨_, Sum.inl (wish - r0), rd_same sz rd, rfl, rfl⟩, ?_⟩
  rw [val_kv, ← due_cnt]
  exact q _ (s1.trans sz)
def spMet (K : PySem.W.Frag) : Sp := fun vs H Q _ => ∃ (a : Addr) (r0 : Int) (rest : List Int), vs = [.ref a] ∧ (∀ H' : Hp, Same H H' → SqT K H' a ((r0 :: rest).map V.int)) ∧ RowS rest ∧
  ∀ (p : Addr) (ms : List Int) (H' : Hp), Same H H' → H' p = some (.tup (ms.map V.int)) → ms.Pairwise (· < ·) → (∀ m, m ∈ ms ↔ ∃ ss ∈ chs sg2 rest.length, r0 + sgS rest ss = m) → Q (.ref p) H'
abbrev s_sides_met : Stmt := top 9
theorem sc_sides_met : FnScope ["row"] ["row"] (defScope s_sides_met) := ⟨rfl, rfl, rfl, by decide +kernel, rfl, by decide +kernel, by decide +kernel⟩
theorem ok_met {f : Addr} {fd : FuncData} (F : Fun K "sides_met" "sides_met" s_sides_met f fd) (B : Blt mg) (Bsorted : mg "sorted" = none) (Gsb : Def P w K mg base CX0 2 "sums_behind" (spSB K)) : FnOk P w K mg base CX0 3 f fd ["row"] (spMet K) := by
  refine F.ok (k := 2) sc_sides_met (fun vs H Q E h => ?_) (fun cdv A outer s H vs Q E hr h => ?_)
  · obtain ⟨a, r0, rest, rfl, _⟩ := h
    rfl
  obtain ⟨a, r0, rest, rfl, ha, hl, q⟩ := h
  refine ⟨_, (pss_one (ps_ret (pe_callTy call_tuple_of rfl B.tuple bt_tuple (pa_cons (pe_comp (N := ["come", "row"]) rfl (cs_of [none, some 0] rfl (by decide +kernel) (by decide +kernel) rfl rfl) rfl (pi_list (pe_callB (call_sortDk rfl) rfl Bsorted bt_sorted (pa_cons (pe_ix ix_list (pe_def Gsb (hr.mono (by omega)) (pa_cons (pv 0) pa_nil)) pe_int (fun _ _ => rfl)) pa_nil))) (fun _ _ _ _ => (pg_name (i := 0) (show (["come", "row"] : List Str).Nodup by decide +kernel) rfl (by first | exact Or.inl rfl | exact Or.inr rfl))) (fun _ _ _ _ => ptl_nil) (fun _ _ _ _ => (pe_op op_add (pe_callB (call_sumT rfl) rfl B.sum bt_sum (pa_cons (pe_slice sl_tupS (pv 1) po_none (po_some pe_int)) pa_nil)) (pv 0)))) pa_nil)))), ?_⟩
  have szl := sizeLine_eq
  refine ⟨_, rfl, a, r0, rest, rfl, ha, hl, fun p ys H1 s1 _ g1 py => ?_⟩
  obtain ⟨d, hd, rd⟩ := dc_head py
  have hdl := dic_lenS hl
  refine ⟨p, ys, 0, .ref d, rfl, rfl, SqL.of g1, hd, d, (dic rest).map kvI, keysP (dic rest), rfl, rd, by unfold keysP; rw [List.map_map, List.map_map]; rfl, by rw [List.length_map]; omega, fun pk ks H2 s2 gk hk mk => ?_⟩
  have kl : ks.length ≤ 3862 := by
    have := strict_len hk (dic_nodup rest) mk
    unfold keysP at this
    rw [List.length_map] at this
    omega
  refine ⟨pk, rfl, ⟨_, SqL.of gk⟩, fun D2 hD2 C2 sx2 fp2 => ?_⟩
  refine comp_list (K := K) (a := pk) (xs := ks.map V.int) (tt := fun _ H Q => Q true H) (fun i zs σ H3 => ∃ o : Option V, σ = [o, some (.ref a)] ∧ Same H2 H3 ∧ zs = ((ks.take i).map fun k => V.int (r0 + k))) (fun i zs σ H3 ⟨_, _, g, _⟩ => SqL.of (g _ _ gk)) ⟨none, rfl, Same.new hD2, rfl⟩ ?_ ?_
  · rintro i x zs σ H3 hi hzl ⟨o, rfl, s3, rfl⟩ g3
    rw [List.getElem?_map] at hi
    obtain ⟨k, hk2, rfl⟩ : ∃ k, ks[i]? = some k ∧ V.int k = x := by
      cases e : ks[i]? with
      | none => rw [e] at hi; cases hi
      | some n => rw [e] at hi; exact ⟨n, rfl, by simpa using hi⟩
    have hil := (List.getElem?_eq_some_iff.mp hk2).1
    refine ⟨_, rfl, 1, rfl, a, _, rfl, fun H' s' => ha H' (s1.trans (s2.trans (s3.trans s'))), fun pz Hz sz hz => ?_⟩
    rw [cutLo1] at hz
    refine ⟨pz, [r0], rfl, hz Hz (fun _ _ e => e), ?_⟩
    rw [show [r0].sum = r0 by simp]
    refine ⟨_, rfl, _, _, rfl, rfl, _, sz _ _ g3, by rw [szl]; omega, _, by rw [List.length_append]; show _ + 1 ≤ i + 1; omega, ⟨_, rfl, same_upd (s3.trans sz) hD2, ?_⟩, upd_same⟩
    rw [take_snoc hk2, List.map_append]; rfl
  · rintro zs σ H3 ⟨o, rfl, s3, rfl⟩ g3
    rw [List.length_map, List.take_length] at g3
    have em : (ks.map fun k => V.int (r0 + k)) = (ks.map (r0 + ·)).map V.int := by rw [List.map_map]; rfl
    rw [em] at g3
    refine ⟨D2, _, rfl, .inl ⟨SqL.of g3, fun pp hpp => ?_⟩⟩
    refine q pp (ks.map (r0 + ·)) _ (s1.trans (s2.trans (s3.trans (Same.new hpp)))) upd_same ?_ fun m => ?_
    · exact List.pairwise_map.mpr (hk.imp fun h => by omega)
    · constructor
      · intro hm
        obtain ⟨k, h1, rfl⟩ := List.mem_map.mp hm
        obtain ⟨ss, h2, h3⟩ := (mem_dic rest k).mp ((mk k).mp h1)
        exact ⟨ss, h2, by rw [h3]⟩
      · rintro ⟨ss, h2, rfl⟩
        exact List.mem_map.mpr ⟨sgS rest ss, (mk _).mpr ((mem_dic rest _).mpr ⟨ss, h2, rfl⟩), rfl⟩
end
end Law

set_option Elab.async false
set_option linter.all false
set_option maxRecDepth 100000
set_option maxHeartbeats 1000000
namespace Law
open PySem L2
section
variable {P : Program} {w : World} {K : PySem.W.Frag} {mg : Str → Option Value} {base : Heap}
theorem bt_ValueError : bootBuiltins "ValueError" = some (.type "ValueError") := by decide +kernel
/-! the refusals -/
abbrev s_init : Stmt := inClass (top 4) 0
theorem sc_init : FnScope ["self", "word"] ["self", "word"] (defScope s_init) := ⟨rfl, rfl, rfl, by decide +kernel, rfl, by decide +kernel, by decide +kernel⟩
def xw (wd : Str) : HO := .xd [("word", .str wd)]
def spInit (C : Addr) : Sp := fun vs H Q _ => ∃ (e : Addr) (v : V) (fr : Bool), vs = [.ref e, v] ∧ H e = some (xO fr (.ref C) none e) ∧ ∀ dx, H dx = none → dx ≠ e → Q .non (upd (upd H e (xO fr (.ref C) (some dx) e)) dx (.xd [("word", v)]))
theorem ok_init {f C : Addr} {bm : List Value} {fd : FuncData} (F : Fun K "__init__" "NoWay.__init__" s_init f fd) (c : XC K C bm) (n : NoAttr K C "word") : FnOk P w K mg base CX0 1 f fd ["self", "word"] (spInit C) := by
  refine F.ok sc_init (fun vs H Q E h => ?_) (fun cdv A outer s H vs Q E hr h => ?_)
  · obtain ⟨e, v, fr, rfl, _⟩ := h
    rfl
  obtain ⟨e, v, fr, rfl, he, q⟩ := h
  refine ⟨_, pss_one (ps_xfld (pv 0) (pv 1) rfl), ?_⟩
  refine ⟨_, rfl, _, rfl, e, C, bm, fr, rfl, c, he, n, fun dx h1 h2 => ?_⟩
  exact q dx h1 h2
/-- the four classes -/
structure Refs (P : Program) (w : World) (K : PySem.W.Frag) (mg : Str → Option Value) (base : Heap) (W T S N : Addr) (bT bS bN : List Value) : Prop where
  cW : XC K W vMro
  cT : XC K T bT
  cS : XC K S bS
  cN : XC K N bN
  gW : mg "WishError" = some (.ref W)
  gT : mg "NoText" = some (.ref T)
  gS : mg "NoAsk" = some (.ref S)
  gN : mg "NoWay" = some (.ref N)
  iT : PySem.W.findIn K (.ref T) "__init__" = some (some (.builtin "ValueError.__init__"))
  iS : PySem.W.findIn K (.ref S) "__init__" = some (some (.builtin "ValueError.__init__"))
  mN : XMk P w K mg base N 1 (spInit N)
  wN : NoAttr K N "word"
  nW : (Value.ref N :: bN).contains (.ref W) = true
  nT : (Value.ref N :: bN).contains (.ref T) = false
  nS : (Value.ref N :: bN).contains (.ref S) = false
  tW : (Value.ref T :: bT).contains (.ref W) = true
  tS : (Value.ref T :: bT).contains (.ref S) = false
  tN : (Value.ref T :: bT).contains (.ref N) = false
  sW : (Value.ref S :: bS).contains (.ref W) = true
  sT : (Value.ref S :: bS).contains (.ref T) = false
  sN : (Value.ref S :: bS).contains (.ref N) = false
variable {W T S N : Addr} {bT bS bN : List Value}
/-- raise NoWay(word) -/
theorem raised {H : Hp} {E : XS} {σ : St} {wd : Str} (h : ∀ dx, H dx = none → E (.ref N) (some dx) σ (upd H dx (xw wd))) (e : Addr) (he : H e = none) :
    spInit N [.ref e, .str wd] (upd H e (xO true (.ref N) none e)) (fun v H2 => v = .non ∧ ∃ dx, H2 e = some (xO true (.ref N) dx e) ∧ E (.ref N) dx σ (del H2 e)) E0 := by
  refine ⟨e, .str wd, true, rfl, upd_same, fun dx h1 h2 => ⟨rfl, some dx, ?_, ?_⟩⟩
  · rw [upd_ne (Ne.symm h2), upd_same]
  · rw [del_upd_ne h2, upd_upd, del_upd he]
    refine h dx ?_
    rw [upd_ne h2] at h1
    exact h1
def spCheck (N : Addr) : Sp := fun vs H Q E => ∃ (i n : Int), vs = [.int i, .int n] ∧ ((0 ≤ i ∧ i < n) → Q .non H) ∧ (¬ (0 ≤ i ∧ i < n) → ∀ dx, H dx = none → E (.ref N) (some dx) (upd H dx (xw "plus")))
abbrev s_check_place : Stmt := top 6
theorem sc_check_place : FnScope ["place", "many"] ["place", "many"] (defScope s_check_place) := ⟨rfl, rfl, rfl, by decide +kernel, rfl, by decide +kernel, by decide +kernel⟩
theorem ok_check {f : Addr} {fd : FuncData} (F : Fun K "check_place" "check_place" s_check_place f fd) (R : Refs P w K mg base W T S N bT bS bN) : FnOk P w K mg base (CXF P w) 3 f fd ["place", "many"] (spCheck N) := by
  refine F.okX sc_check_place (fun vs H Q E h => ?_) (fun cdv A outer s H vs Q E hr h => ?_)
  · obtain ⟨i, n, rfl, _⟩ := h
    rfl
  obtain ⟨i, n, rfl, q1, q2⟩ := h
  refine ⟨_, (pss_one (ps_if (PW.pt (pw_or (pt_cmpR op_lt (pv 0) pe_int (nomark _)) (pw_or1 (pt_cmpR op_ge (pv 0) (pv 1) (nomark _))))) (pss_one (ps_raise rfl R.cN R.mN (hr.mono (by omega)) R.gN (pa_cons pe_str pa_nil))) pss_nil)), ?_⟩
  refine ⟨_, rfl, _, _, rfl, rfl, _, rfl, ?_⟩
  refine ite2 (fun c => iteT ?_) (fun c => ?_)
  · have c' : i < 0 := of_decide_eq_true c
    exact ⟨(by show 1 ≤ sizeLine; decide), raised (σ := []) (E := fun cls dx _ H' => E cls dx H') (q2 (by omega))⟩
  · have c' : ¬ i < 0 := fun z => c (decide_eq_true z)
    refine ⟨_, rfl, _, rfl, _, _, rfl, rfl, _, rfl, ?_⟩
    refine ite2 (fun c => ?_) (fun c => ?_)
    · have c2 : n ≤ i := of_decide_eq_true c
      exact ⟨(by show 1 ≤ sizeLine; decide), raised (σ := []) (E := fun cls dx _ H' => E cls dx H') (q2 (by omega))⟩
    · have c2 : ¬ n ≤ i := fun z => c (decide_eq_true z)
      exact q1 (by omega)
def AtOk (N : Addr) (H : Hp) (Q : VK) (E : XK) (l : List (List Str)) (i : Int) : Prop :=
  (0 ≤ i ∧ i < l.length → ∀ (v : V) (H' : Hp), Same H H' → Put H' v (l.getD i.toNat []) → Q v H') ∧ (¬ (0 ≤ i ∧ i < l.length) → ∀ dx H', Same H H' → H dx = none → H' dx = some (xw "plus") → E (.ref N) (some dx) H')
def spAtX (K : PySem.W.Frag) (N : Addr) : Sp := fun vs H Q E => ∃ (a : Addr) (r0 : Int) (rest : List Int) (wish i : Int), vs = [.ref a, .int wish, .int i] ∧ (∀ H' : Hp, Same H H' → SqT K H' a ((r0 :: rest).map V.int)) ∧ RowS rest ∧ AtOk N H Q E (dueS rest (wish - r0)) i
theorem sqt_but {H H' : Hp} {a ps : Addr} {xs l : List V} (k : ∀ b u, b ≠ ps → H b = some u → H' b = some u) (hp : H ps = some (.lst l)) (h : SqT K H a xs) : SqT K H' a xs := by
  rcases h with (h | ⟨o, h⟩) | h
  · exact .inl (.inl (k a _ (fun z => by rw [z, hp] at h; cases h) h))
  · exact .inl (.inr ⟨o, k a _ (fun z => by rw [z, hp] at h; cases h) h⟩)
  · exact .inr h
abbrev s_sides_at : Stmt := top 8
theorem sc_sides_at : FnScope ["row", "wish", "place", "sums", "lacking", "signs", "number", "behind", "by_plus"] ["row", "wish", "place"] (defScope s_sides_at) := ⟨rfl, rfl, rfl, by decide +kernel, rfl, by decide +kernel, by decide +kernel⟩
theorem okX_at {f : Addr} {fd : FuncData} (F : Fun K "sides_at" "sides_at" s_sides_at f fd) (B : Blt mg) (Gsb : Def P w K mg base CX0 2 "sums_behind" (spSB K)) (Gcheck : Def P w K mg base (CXF P w) 3 "check_place" (spCheck N)) : FnOk P w K mg base (CXF P w) 6 f fd ["row", "wish", "place"] (spAtX K N) := by
  refine F.okX (k := 5) sc_sides_at (fun vs H Q E h => ?_) (fun cdv A outer s H vs Q E hr h => ?_)
  · obtain ⟨a, r0, rest, wish, i, rfl, _⟩ := h
    rfl
  obtain ⟨a, r0, rest, wish, pl, rfl, ha, hl, q1, q2⟩ := h
  refine ⟨_, (pss_cons (ps_set (i := 3) sc_sides_at.nd rfl (by first | exact Or.inl rfl | exact Or.inr rfl) (pe_def Gsb (hr.mono (by omega)) (pa_cons (pv 0) pa_nil)))
      (pss_cons (ps_set (i := 4) sc_sides_at.nd rfl (by first | exact Or.inl rfl | exact Or.inr rfl) (pe_op op_sub (pv 1) (pe_callB (call_sumT rfl) rfl B.sum bt_sum (pa_cons (pe_slice sl_tupS (pv 0) po_none (po_some pe_int)) pa_nil))))
      (pss_cons (ps_expr (pe_defX Gcheck (hr.mono (by omega)) (pa_cons (pv 2) (pa_cons (pe_dget2 (hu_of hr) (pe_ix ix_list (pv 3) pe_int (fun _ _ => rfl)) (pv 4) pe_int ⟨rfl, rfl, rfl, rfl⟩) pa_nil))))
      (pss_cons (ps_set (i := 5) sc_sides_at.nd rfl (by first | exact Or.inl rfl | exact Or.inr rfl) (pe_lst pa_nil))
      (pss_cons (ps_for (x_passes rfl rfl) rfl (pi_zipM B.zip (pa_cons (pe_slice sl_tupS (pv 0) (po_some pe_int) po_none) (pa_cons (pe_slice sl_list (pv 3) (po_some pe_int) po_none) pa_nil))) (pg_tup rfl (pgs_cons (pg_name (i := 6) sc_sides_at.nd rfl (by first | exact Or.inl rfl | exact Or.inr rfl)) (pgs_cons (pg_name (i := 7) sc_sides_at.nd rfl (by first | exact Or.inl rfl | exact Or.inr rfl)) pgs_nil))) (pss_cons (ps_set (i := 8) sc_sides_at.nd rfl (by first | exact Or.inl rfl | exact Or.inr rfl) (pe_dget2 (hu_of hr) (pv 7) (pe_op op_sub (pv 4) (pv 6)) pe_int ⟨rfl, rfl, rfl, rfl⟩))
      (pss_one (ps_if (pt_cmpR op_lt (pv 2) (pv 8) (nomark _)) (pss_cons (ps_expr (pe_bm PySem.F.plainAttrs_list PySem.F.slot_list_append PySem.F.type_list_append mt_append (pv 5) (pa_cons pe_str pa_nil)))
      (pss_one (ps_aug (i := 4) sc_sides_at.nd rfl (by first | exact Or.inl rfl | exact Or.inr rfl) (pv 6) ip_sub))) (pss_cons (ps_expr (pe_bm PySem.F.plainAttrs_list PySem.F.slot_list_append PySem.F.type_list_append mt_append (pv 5) (pa_cons pe_str pa_nil)))
      (pss_cons (ps_aug (i := 4) sc_sides_at.nd rfl (by first | exact Or.inl rfl | exact Or.inr rfl) (pv 6) ip_add)
      (pss_one (ps_aug (i := 2) sc_sides_at.nd rfl (by first | exact Or.inl rfl | exact Or.inr rfl) (pv 8) ip_sub))))))))
      (pss_one (ps_ret (pe_callTy call_tuple_of rfl B.tuple bt_tuple (pa_cons (pv 5) pa_nil))))))))), ?_⟩
  have szl := sizeLine_eq
  have hl1 := hl.1
  refine ⟨_, rfl, a, r0, rest, rfl, ha, hl, fun p ys H1 s1 _ g1 py => ?_⟩
  refine ⟨_, rfl, _, rfl, 1, rfl, a, _, rfl, fun H' s' => ha H' (s1.trans s'), fun pz Hz sz hz => ?_⟩
  rw [cutLo1] at hz
  refine ⟨pz, [r0], rfl, hz Hz (fun _ _ e => e), ?_⟩
  rw [show [r0].sum = r0 by simp]
  refine ⟨_, _, rfl, rfl, ?_⟩
  obtain ⟨d, hd, rd⟩ := dc_head py
  have gz := sz _ _ g1
  refine ⟨_, rfl, _, rfl, p, ys, 0, .ref d, rfl, rfl, SqL.of gz, hd, d, rfl, .inl ⟨_, rd_same sz rd⟩, _, rfl, _, .inl ⟨_, Sum.inl (wish - r0), rd_same sz rd, rfl, rfl⟩, pl, ((dueS rest (wish - r0)).length : Int), by rw [val_kv, ← due_cnt], fun c => ?_, fun c dx hdx => ?_⟩
  case refine_2 => exact q2 c dx _ (s1.trans (sz.trans (Same.new hdx))) ((s1.trans sz).free hdx) upd_same
  refine ⟨(by show 0 ≤ sizeLine; decide), fun ps hps => ?_⟩
  have s3 := (s1.trans sz).trans (Same.new (o := .lst []) hps)
  have gs3 : (upd Hz ps (.lst [])) ps = some (.lst []) := upd_same
  have g3 := Same.new (o := .lst []) hps _ _ gz
  have py3 : Paired (Dc (upd Hz ps (.lst []))) ys (sfx rest) := L2.Paired.mapP py fun v x ⟨e, h1, h2⟩ => ⟨e, h1, rd_same (sz.trans (Same.new hps)) h2⟩
  have nps : H ps = none := same_none (s1.trans sz) hps
  generalize upd Hz ps (.lst []) = H3 at s3 gs3 g3 py3 ⊢
  refine ⟨_, rfl, 1, rfl, a, _, rfl, fun H' s' => ha H' (s3.trans s'), fun pr Hr sr hr2 => ?_⟩
  rw [cutHi1] at hr2
  refine ⟨_, rfl, 1, rfl, p, ys, rfl, SqL.of (sr _ _ g3), fun pq hpq => ?_⟩
  have eqc : cutV ys (some 1) none = ys.drop 1 := cut_hi (a := 1) _ (by rw [py3.length, sfx_len]; omega)
  rw [eqc]
  have nqs : pq ≠ ps := fun z => by rw [z, sr _ _ gs3] at hpq; cases hpq
  have sq := Same.new (o := .lst (ys.drop 1)) hpq
  have gq : (upd Hr pq (.lst (ys.drop 1))) pq = some (.lst (ys.drop 1)) := upd_same
  have hrq : ∀ H', Same (upd Hr pq (.lst (ys.drop 1))) H' → SqT K H' pr (rest.map V.int) := fun H' s' => hr2 H' (sq.trans s')
  have gs4 := sq _ _ (sr _ _ gs3)
  have py4 : Paired (Dc (upd Hr pq (.lst (ys.drop 1)))) ys (sfx rest) := L2.Paired.mapP py3 fun v x ⟨e, h1, h2⟩ => ⟨e, h1, rd_same (sr.trans sq) h2⟩
  have s4 := s3.trans (sr.trans sq)
  generalize upd Hr pq (.lst (ys.drop 1)) = H4 at gq hrq gs4 py4 s4 ⊢
  have yl : ys.length = rest.length + 1 := by rw [py4.length, sfx_len]
  refine ⟨pr, pq, rfl, ⟨_, hrq _ (fun _ _ e => e)⟩, ⟨_, SqL.of gq⟩, for_zipM (K := K) (p := pr) (r := pq) (xs := rest.map V.int) (ys := ys.drop 1) (n := rest.length) (by rw [List.length_map, List.length_drop]; omega)
    (fun i σ H' => ∃ (lk pc : Int) (pre : List Str) (z1 z2 z3 : Option V), σ = [some (.ref a), some (.int wish), some (.int pc), some (.ref p), some (.int lk), some (.ref ps), z1, z2, z3] ∧ Same H H' ∧ (∀ b u, b ≠ ps → H4 b = some u → H' b = some u) ∧ H' ps = some (.lst (pre.map V.str)) ∧ pre.length = i ∧ 0 ≤ pc ∧ pc.toNat < (dueS (rest.drop i) lk).length ∧ (dueS rest (wish - r0)).getD pl.toNat [] = pre ++ (dueS (rest.drop i) lk).getD pc.toNat [])
    ⟨wish - r0, pl, [], none, none, none, rfl, s4, fun _ _ _ e => e, gs4, rfl, c.1, by rw [List.drop_zero]; omega, by rw [List.drop_zero]; rfl⟩ ?_ ?_ ?_⟩
  · rintro i σ H' hi ⟨lk, pc, pre, z1, z2, z3, rfl, sH, k, gp, _⟩
    exact ⟨sqt_but k gs4 (hrq _ fun _ _ e => e), SqL.of (k pq _ nqs gq)⟩
  · rintro i T x y σ H' hx hy ⟨lk, pc, pre, z1, z2, z3, rfl, sH, k, gp, pl1, c0, c1, hdue⟩ hT
    rw [List.getElem?_map] at hx
    obtain ⟨n, hn, rfl⟩ : ∃ n, rest[i]? = some n ∧ V.int n = x := by
      cases e : rest[i]? with
      | none => rw [e] at hx; cases hx
      | some n => rw [e] at hx; exact ⟨n, rfl, by simpa using hx⟩
    have hil := (List.getElem?_eq_some_iff.mp hn).1
    rw [List.getElem?_drop] at hy
    obtain ⟨ns, hns, e, rfl, rde⟩ := pr_get py4 hy
    rw [sfx_get rest (1 + i) (by omega)] at hns
    cases hns
    have ed : rest.drop i = n :: rest.drop (1 + i) := by
      rw [List.drop_eq_getElem_cons hil, show i + 1 = 1 + i by omega]
      congr 1
      rw [List.getElem?_eq_getElem hil] at hn
      exact Option.some.inj hn
    have nee : e ≠ ps := fun z => by
      rcases rde with h | ⟨o, h⟩ <;> (rw [z, gs4] at h; cases h)
    have sT := Same.new (o := .tup [V.int n, V.ref e]) hT
    have rdT : Rd (upd H' T (.tup [V.int n, V.ref e])) e (.dK ((dic (rest.drop (1 + i))).map kvI)) := rd_same sT (rd_keep (fun o ho => k e o nee ho) rde)
    have gpT := sT _ _ gp
    rw [ed] at c1 hdue
    have npT : T ≠ ps := fun z => by rw [z, gp] at hT; cases hT
    refine ⟨T, _, rfl, SqT.of upd_same, rfl, _, _, rfl, _, _, rfl, rfl, ?_⟩
    refine ⟨_, rfl, e, rfl, .inl ⟨_, rdT⟩, _, rfl, _, rfl, _, _, rfl, rfl, _, .inl ⟨_, Sum.inl (lk - n), rdT, rfl, rfl⟩, ?_⟩
    rw [val_kv, ← due_cnt]
    refine ⟨_, rfl, _, rfl, _, _, rfl, rfl, _, rfl, ?_⟩
    have fin : ∀ s : Str, (∀ b u, b ≠ ps → H4 b = some u → (upd (upd H' T (.tup [V.int n, V.ref e])) ps (.lst (pre.map V.str ++ [.str s]))) b = some u) ∧ Same H (upd (upd H' T (.tup [V.int n, V.ref e])) ps (.lst (pre.map V.str ++ [.str s]))) ∧ (upd (upd H' T (.tup [V.int n, V.ref e])) ps (.lst (pre.map V.str ++ [.str s]))) ps = some (.lst ((pre ++ [s]).map V.str)) := fun s => by
      refine ⟨fun b u nb e1 => ?_, same_upd (sH.trans sT) nps, ?_⟩
      · rw [upd_ne nb]; exact sT _ _ (k b u nb e1)
      · rw [upd_same, List.map_append]; rfl
    refine ite2 (fun cc => ?_) (fun cc => ?_)
    · have cc' : pc < ((dueS (rest.drop (1 + i)) (lk - n)).length : Int) := of_decide_eq_true cc
      refine ⟨_, rfl, .inl ⟨rfl, _, SqL.of gpT⟩, ps, _, _, rfl, rfl, gpT, by rw [List.length_map, szl]; omega, ?_⟩
      refine ⟨_, rfl, _, rfl, _, _, rfl, rfl, ?_⟩
      obtain ⟨f1, f2, f3⟩ := fin "+"
      refine ⟨lk - n, pc, pre ++ [("+" : Str)], _, _, _, rfl, f2, f1, f3, by rw [List.length_append]; show pre.length + 1 = _; omega, c0, by rw [show i + 1 = 1 + i by omega]; omega, ?_⟩
      rw [hdue, nth_plus (by omega), show i + 1 = 1 + i by omega, List.append_assoc]
      rfl
    · have cc' : ¬ pc < ((dueS (rest.drop (1 + i)) (lk - n)).length : Int) := fun z => cc (decide_eq_true z)
      obtain ⟨e1, e2⟩ := nth_less (i := pc.toNat) (by omega) c1
      refine ⟨_, rfl, .inl ⟨rfl, _, SqL.of gpT⟩, ps, _, _, rfl, rfl, gpT, by rw [List.length_map, szl]; omega, ?_⟩
      refine ⟨_, rfl, _, rfl, _, _, rfl, rfl, ?_⟩
      refine ⟨_, rfl, _, rfl, _, _, rfl, rfl, ?_⟩
      obtain ⟨f1, f2, f3⟩ := fin "-"
      have ep : (pc - ((dueS (rest.drop (1 + i)) (lk - n)).length : Int)).toNat = pc.toNat - (dueS (rest.drop (1 + i)) (lk - n)).length := by omega
      refine ⟨lk + n, pc - ((dueS (rest.drop (1 + i)) (lk - n)).length : Int), pre ++ [("-" : Str)], _, _, _, rfl, f2, f1, f3, by rw [List.length_append]; show pre.length + 1 = _; omega, by omega, by rw [show i + 1 = 1 + i by omega, ep]; exact e1, ?_⟩
      rw [hdue, e2, show i + 1 = 1 + i by omega, List.append_assoc, ep]
      rfl
  · rintro σ H' ⟨lk, pc, pre, z1, z2, z3, rfl, sH, k, gp, pl1, c0, c1, hdue⟩
    rw [List.drop_length] at c1 hdue
    have er : (dueS rest (wish - r0)).getD pl.toNat [] = pre := by
      rw [hdue]
      rw [dueS_nil] at c1 ⊢
      by_cases h0 : lk = 0
      · rw [if_pos h0] at c1 ⊢
        have : pc.toNat = 0 := by simpa using c1
        rw [this]; simp
      · rw [if_neg h0] at c1; simp at c1
    refine ⟨_, rfl, ps, _, rfl, .inl ⟨SqL.of gp, fun pp hpp => ?_⟩⟩
    exact q1 c _ _ (sH.trans (Same.new hpp)) ⟨pp, rfl, by rw [upd_same, er]⟩
def spAt (K : PySem.W.Frag) : Sp := fun vs H Q E => ∃ (a : Addr) (r0 : Int) (rest : List Int) (wish : Int) (i : Int), vs = [.ref a, .int wish, .int i] ∧ (∀ H' : Hp, Same H H' → SqT K H' a ((r0 :: rest).map V.int)) ∧ RowS rest ∧ (0 ≤ i ∧ i < (dueS rest (wish - r0)).length) ∧
  ∀ (v : V) (H' : Hp), Same H H' → Put H' v ((dueS rest (wish - r0)).getD i.toNat []) → Q v H'
theorem ok_at {f : Addr} {fd : FuncData} (F : FnOk P w K mg base (CXF P w) 6 f fd ["row", "wish", "place"] (spAtX K N)) : FnOk P w K mg base CX0 6 f fd ["row", "wish", "place"] (spAt K) :=
  F.hush fun vs H Q E ⟨a, r0, rest, wish, i, e, ha, ok, hi, q⟩ => ⟨a, r0, rest, wish, i, e, ha, ok, fun _ => q, fun z => absurd hi z⟩
end
end Law

set_option Elab.async false
set_option linter.all false
set_option maxRecDepth 100000
set_option maxHeartbeats 1000000
namespace Law
open PySem L2
section
variable {P : Program} {w : World} {K : PySem.W.Frag} {mg : Str → Option Value} {base : Heap}
theorem seq_key {s u : TS} {D : Ends} {σ : St} {H : Hp} (Mid : St → Hp → Prop) (h2 : ∀ σ' H', Mid σ' H' → u D σ' H') (h : ∀ X' : St → Hp → Prop, (∀ σ' H', Mid σ' H' → X' σ' H') → s { D with nx := X' } σ H) : tSeq s u D σ H := h (u D) h2
def spDrawS (K : PySem.W.Frag) : Sp := fun vs H Q _ => ∃ (a : Addr) (ns : List Int) (k : Int), vs = [.ref a, .int k] ∧ SqL K H a (ns.map V.int) ∧ ns.length ≤ 63 ∧ 0 ≤ k ∧ k < 1000 ∧ ∀ (r : Int) (H' : Hp), 0 ≤ r → r < 2147483579 → Same H H' → Q (.int r) H'
abbrev s_law_draw : Stmt := top 13
theorem sc_law_draw : FnScope ["script", "k", "many", "cell", "turn", "mixed"] ["script", "k"] (defScope s_law_draw) := ⟨rfl, rfl, rfl, by decide +kernel, rfl, by decide +kernel, by decide +kernel⟩
theorem ok_draw {f : Addr} {fd : FuncData} (F : Fun K "_law_draw" "_law_draw" s_law_draw f fd) (B : Blt mg) (Bmax : mg "max" = none) (Bmin : mg "min" = none) (Blist : mg "list" = none) : FnOk P w K mg base CX0 1 f fd ["script", "k"] (spDrawS K) := by
  refine F.ok sc_law_draw (fun vs H Q E h => ?_) (fun cdv A outer s H vs Q E hr h => ?_)
  · obtain ⟨a, ns, k, rfl, _⟩ := h
    rfl
  obtain ⟨a, ns, k, rfl, hS, hl, k0, k1, q⟩ := h
  refine ⟨_, (pss_cons (ps_set (i := 2) sc_law_draw.nd rfl (by first | exact Or.inl rfl | exact Or.inr rfl) (pe_callB (call_max2 rfl) rfl Bmax bt_max (pa_cons pe_int (pa_cons (pe_callB call_len_seq rfl B.len bt_len (pa_cons (pv 0) pa_nil)) pa_nil))))
      (pss_cons (ps_set (i := 3) sc_law_draw.nd rfl (by first | exact Or.inl rfl | exact Or.inr rfl) (pe_ix ix_list (pe_op op_cat (pe_callTy call_list_of rfl Blist bt_list (pa_cons (pv 0) pa_nil)) (pe_lst (pa_cons pe_int pa_nil))) (pe_op op_mod (pv 1) (pv 2)) (fun _ _ => rfl)))
      (pss_cons (ps_if (PW.pt (pw_or (pt_cmpR op_ge (pv 3) (pe_op op_pow pe_int pe_int) (nomark _)) (pw_or1 (pt_cmpR op_le (pv 3) (pe_un un_neg (pe_op op_pow pe_int pe_int)) (nomark _))))) (pss_cons (ps_for PassesOwn.never rfl (pi_range1 rfl B.range (pa_cons (pe_callB (call_min2 rfl) rfl Bmin bt_min (pa_cons (pe_op op_fdiv (pv 1) (pv 2)) (pa_cons pe_int pa_nil))) pa_nil)) (pg_name (i := 4) sc_law_draw.nd rfl (by first | exact Or.inl rfl | exact Or.inr rfl)) (pss_one (ps_set (i := 3) sc_law_draw.nd rfl (by first | exact Or.inl rfl | exact Or.inr rfl) (pe_op op_fdivB (pv 3) pe_int))))
      (pss_one (ps_ret (pe_op op_mod (pv 3) pe_int)))) pss_nil)
      (pss_cons (ps_set (i := 5) sc_law_draw.nd rfl (by first | exact Or.inl rfl | exact Or.inr rfl) (pe_op op_mod (pe_op op_mul (pe_op op_add (pe_op op_add (pe_op op_mod (pv 3) pe_int) pe_int) (pe_op op_mul pe_int (pe_op op_fdiv (pv 1) (pv 2)))) pe_int) pe_int))
      (pss_cons (ps_set (i := 5) sc_law_draw.nd rfl (by first | exact Or.inl rfl | exact Or.inr rfl) (pe_op op_mod (pe_op op_mul (pv 5) (pv 5)) pe_int))
      (pss_one (ps_ret (pe_op op_mod (pe_op op_mul (pv 5) pe_int) pe_int)))))))), ?_⟩
  have szl := sizeLine_eq
  refine ⟨_, rfl, a, _, rfl, .inl hS, 1, _, rfl, ?_⟩
  rw [List.length_map]
  obtain ⟨m, hm, m1, m2, m3⟩ : ∃ m : Int, (if (ns.length : Int) > 1 then (ns.length : Int) else 1) = m ∧ 1 ≤ m ∧ m ≤ 63 ∧ m ≤ (ns.length : Int) + 1 := ⟨_, rfl, by split <;> omega, by split <;> omega, by split <;> omega⟩
  rw [hm]
  refine ⟨_, rfl, a, _, rfl, .inl hS, fun p1 hp1 => ⟨(by show 1 ≤ sizeLine; decide), fun p2 hp2 => ⟨p1, p2, _, _, rfl, rfl, Same.new hp2 _ _ upd_same, upd_same, ?_, fun p3 hp3 => ?_⟩⟩⟩
  · rw [List.length_map, szl]; show ns.length + 1 ≤ _; omega
  have s3 : Same H (upd (upd (upd H p1 (.lst (ns.map V.int))) p2 (.lst [.int 0])) p3 (.lst (ns.map V.int ++ [.int 0]))) := (Same.new hp1).trans ((Same.new hp2).trans (Same.new hp3))
  have g3 : (upd (upd (upd H p1 (.lst (ns.map V.int))) p2 (.lst [.int 0])) p3 (.lst (ns.map V.int ++ [.int 0]))) p3 = some (.lst ((ns ++ [0]).map V.int)) := by rw [upd_same, List.map_append]; rfl
  generalize upd (upd (upd H p1 (.lst (ns.map V.int))) p2 (.lst [.int 0])) p3 (.lst (ns.map V.int ++ [.int 0])) = H1 at s3 g3 ⊢
  have i0 : 0 ≤ k % m := Int.emod_nonneg _ (by omega)
  have i1 : k % m < m := Int.emod_lt_of_pos _ (by omega)
  obtain ⟨v, hv, hmem⟩ := atI_mem (xs := (ns ++ [0]).map V.int) i0 (by rw [List.length_map, List.length_append]; show k % m < ((ns.length + 1 : Nat) : Int); omega)
  obtain ⟨cell, _, rfl⟩ := List.mem_map.mp hmem
  refine ⟨_, rfl, _, rfl, _, _, rfl, rfl, (by show (0 : Int) < m; omega), p3, _, _, _, rfl, rfl, SqL.of g3, hv, ?_⟩
  have d0 : 0 ≤ k / m := Int.ediv_nonneg k0 (by omega)
  have d1 : k / m ≤ k := by
    have := Int.ediv_le_self m k0
    exact this
  dsimp only [gName]
  refine seq_key (fun σ' H' => σ' = [some (.ref a), some (.int k), some (.int m), some (.int cell), none, none] ∧ H' = H1) ?_ ?_
  · rintro σ' H' ⟨rfl, rfl⟩
    have e1 : 0 ≤ cell % 2147483629 := Int.emod_nonneg _ (by decide)
    have e2 : cell % 2147483629 < 2147483629 := Int.emod_lt_of_pos _ (by decide)
    refine ⟨_, rfl, _, _, rfl, rfl, (by show (0 : Int) < _; decide), _, _, rfl, rfl, _, rfl, _, rfl, _, _, rfl, rfl, ⟨by omega, by omega⟩, _, _, rfl, rfl, .inl ⟨by decide, by decide⟩, _, _, rfl, rfl, _, _, rfl, rfl, .inr ⟨by decide, by decide⟩, _, _, rfl, rfl, (by show (0 : Int) < _; decide), ?_⟩
    generalize hy : (cell % 2147483629 + 17 + 68209 * (k / m)) * 47791 % 2147483629 = y
    have y0 : 0 ≤ y := by rw [← hy]; exact Int.emod_nonneg _ (by decide)
    have y1 : y < 2147483629 := by rw [← hy]; exact Int.emod_lt_of_pos _ (by decide)
    refine ⟨_, rfl, _, rfl, _, _, rfl, rfl, .inl ⟨by omega, by omega⟩, _, _, rfl, rfl, (by show (0 : Int) < _; decide), ?_⟩
    refine ⟨_, rfl, _, _, rfl, rfl, .inr ⟨by decide, by decide⟩, _, _, rfl, rfl, (by show (0 : Int) < _; decide), ?_⟩
    exact q _ _ (Int.emod_nonneg _ (by decide)) (Int.emod_lt_of_pos _ (by decide)) s3
  · intro X' hX
    refine ⟨_, rfl, _, _, rfl, rfl, ⟨by decide, by decide, by decide⟩, _, _, rfl, rfl, _, rfl, ?_⟩
    refine ite2 (fun _ => iteT ?g1) (fun _ => ?g3)
    case g3 =>
      refine ⟨_, rfl, _, _, rfl, rfl, ⟨by decide, by decide, by decide⟩, _, rfl, _, _, rfl, rfl, _, rfl, ?_⟩
      refine ite2 (fun _ => ?g2) (fun _ => ?g4)
      case g4 => exact hX _ _ ⟨rfl, rfl⟩
      case g2 =>
        refine ⟨_, rfl, _, rfl, _, _, rfl, rfl, ⟨by omega, by omega⟩, _, _, rfl, _, rfl, (by split <;> omega), (by split <;> omega), for_range (fun i σ H' => ∃ (c : Int) (z : Option V), σ = [some (.ref a), some (.int k), some (.int m), some (.int c), z, none] ∧ H' = H1) ⟨cell, none, rfl, rfl⟩ ?_ ?_⟩
        · rintro i σ H' _ ⟨c, z, rfl, rfl⟩
          exact ⟨_, rfl, _, _, rfl, rfl, ⟨by decide, by decide⟩, _, _, rfl, rfl⟩
        · rintro σ H' ⟨c, z, rfl, rfl⟩
          exact ⟨_, rfl, _, _, rfl, rfl, (by show (0 : Int) < _; decide), q _ _ (Int.emod_nonneg _ (by decide)) (Int.lt_trans (Int.emod_lt_of_pos _ (by decide)) (by decide)) s3⟩
    case g1 =>
      refine ⟨_, rfl, _, rfl, _, _, rfl, rfl, ⟨by omega, by omega⟩, _, _, rfl, _, rfl, (by split <;> omega), (by split <;> omega), for_range (fun i σ H' => ∃ (c : Int) (z : Option V), σ = [some (.ref a), some (.int k), some (.int m), some (.int c), z, none] ∧ H' = H1) ⟨cell, none, rfl, rfl⟩ ?_ ?_⟩
      · rintro i σ H' _ ⟨c, z, rfl, rfl⟩
        exact ⟨_, rfl, _, _, rfl, rfl, ⟨by decide, by decide⟩, _, _, rfl, rfl⟩
      · rintro σ H' ⟨c, z, rfl, rfl⟩
        exact ⟨_, rfl, _, _, rfl, rfl, (by show (0 : Int) < _; decide), q _ _ (Int.emod_nonneg _ (by decide)) (Int.lt_trans (Int.emod_lt_of_pos _ (by decide)) (by decide)) s3⟩
end
end Law

set_option Elab.async false
set_option linter.all false
set_option maxRecDepth 100000
set_option maxHeartbeats 1000000
namespace Law
open PySem L2
section
variable {P : Program} {w : World} {K : PySem.W.Frag} {mg : Str → Option Value} {base : Heap}
theorem dec_str (a b : Str) : decide (V.str a = V.str b) = decide (a = b) := by
  by_cases h : a = b
  · rw [h]; simp
  · rw [decide_eq_false h, decide_eq_false (fun z => h (V.str.inj z))]
theorem sgS_snoc (n : Int) (s : Str) : ∀ (ns : List Int) (ss : List Str), ns.length = ss.length → sgS (ns ++ [n]) (ss ++ [s]) = sgS ns ss + (if s = "-" then -n else n)
  | [], [], _ => by show (if s = "-" then -n else n) + 0 = 0 + _; omega
  | m :: ns, t :: ss, h => by
    show (if t = "-" then -m else m) + sgS (ns ++ [n]) (ss ++ [s]) = (if t = "-" then -m else m) + sgS ns ss + _
    rw [sgS_snoc n s ns ss (by simpa using h)]
    omega
def spLW (K : PySem.W.Frag) : Sp := fun vs H Q _ => ∃ (a : Addr) (v : V) (r0 : Int) (rest : List Int) (ss : List Str), vs = [.ref a, v] ∧ (∀ H' : Hp, Same H H' → SqT K H' a ((r0 :: rest).map V.int)) ∧ Put H v ss ∧ ss.length = rest.length ∧ RowS rest ∧
  ∀ H' : Hp, Same H H' → Q (.int (r0 + sgS rest ss)) H'
abbrev s_law_worth : Stmt := top 14
theorem sc_law_worth : FnScope ["row", "signs", "total", "k"] ["row", "signs"] (defScope s_law_worth) := ⟨rfl, rfl, rfl, by decide +kernel, rfl, by decide +kernel, by decide +kernel⟩
theorem ok_lw {f : Addr} {fd : FuncData} (F : Fun K "_law_worth" "_law_worth" s_law_worth f fd) (B : Blt mg) : FnOk P w K mg base CX0 1 f fd ["row", "signs"] (spLW K) := by
  refine F.ok sc_law_worth (fun vs H Q E h => ?_) (fun cdv A outer s H vs Q E hr h => ?_)
  · obtain ⟨a, v, r0, rest, ss, rfl, _⟩ := h
    rfl
  obtain ⟨a, v, r0, rest, ss, rfl, ha, ⟨qs, rfl, gs⟩, hl, h9, q⟩ := h
  refine ⟨_, (pss_cons (ps_set (i := 2) sc_law_worth.nd rfl (by first | exact Or.inl rfl | exact Or.inr rfl) (pe_ix ix_tup (pv 0) pe_int (fun _ _ => rfl)))
      (pss_cons (ps_for PassesOwn.never rfl (pi_range1 rfl B.range (pa_cons (pe_callB call_len_seq rfl B.len bt_len (pa_cons (pv 1) pa_nil)) pa_nil)) (pg_name (i := 3) sc_law_worth.nd rfl (by first | exact Or.inl rfl | exact Or.inr rfl)) (pss_one (ps_set (i := 2) sc_law_worth.nd rfl (by first | exact Or.inl rfl | exact Or.inr rfl) (pe_op op_add (pv 2) (pe_op op_mul (pe_ix ix_tup (pv 0) (pe_op op_add (pv 3) pe_int) (fun _ _ => rfl)) (pe_ix ix_list (pe_lst (pa_cons pe_int (pa_cons (pe_un un_neg pe_int) pa_nil))) (pe_callTy call_int1 rfl B.int bt_int (pa_cons (pe_cmpR op_eq (pe_ix ix_tup (pv 1) (pv 3) (fun _ _ => rfl)) pe_str (nomark _)) pa_nil)) (fun _ _ => rfl)))))))
      (pss_one (ps_ret (pv 2))))), ?_⟩
  have szl := sizeLine_eq
  have h91 := h9.1
  refine ⟨_, rfl, a, _, 0, .int r0, rfl, rfl, ha H (fun _ _ e => e), (by exact atI_nat (j := 0) rfl), ?_⟩
  refine ⟨_, rfl, qs, _, rfl, .inr (SqT.of gs), _, rfl, by omega, by rw [List.length_map]; omega, for_range (fun k σ H' => ∃ (z : Option V), σ = [some (.ref a), some (.ref qs), some (.int (r0 + sgS (rest.take k) (ss.take k))), z] ∧ Same H H')
    ⟨none, by rw [List.take_zero, List.take_zero]; show _ = [_, _, some (V.int (r0 + 0)), none]; rw [Int.add_zero]; rfl, fun _ _ e => e⟩ ?_ ?_⟩
  · rintro k σ H3 hk ⟨z, rfl, s3⟩
    rw [List.length_map] at hk
    have hk' : k < ss.length := by omega
    obtain ⟨sn, hsn⟩ : ∃ sn, ss[k]? = some sn := ⟨ss[k], List.getElem?_eq_getElem hk'⟩
    obtain ⟨n, hn⟩ : ∃ n, rest[k]? = some n := ⟨rest[k], List.getElem?_eq_getElem (by omega)⟩
    have hat : atI (ss.map V.str) (0 + (k : Int)) = some (.str sn) := by rw [Int.zero_add]; exact atI_nat (by rw [List.getElem?_map, hsn]; rfl)
    have har : atI ((r0 :: rest).map V.int) (0 + (k : Int) + 1) = some (.int n) := by
      rw [show 0 + (k : Int) + 1 = ((k + 1 : Nat) : Int) by omega]
      exact atI_nat (by rw [List.getElem?_map]; show (rest[k]?).map V.int = _; rw [hn]; rfl)
    obtain ⟨sg, hsg, hput, hs1⟩ : ∃ sg : Int, atI [V.int 1, V.int (-1)] (if decide (V.str sn = V.str "-") = true then 1 else 0) = some (.int sg) ∧ (if sn = "-" then -n else n) = n * sg ∧ (sg = 1 ∨ sg = -1) := by
      by_cases h : sn = "-"
      · subst h
        refine ⟨-1, ?_, ?_, .inr rfl⟩
        · rw [if_pos (by decide +kernel)]; rfl
        · rw [if_pos rfl]; omega
      · refine ⟨1, ?_, ?_, .inl rfl⟩
        · rw [dec_str, decide_eq_false h, if_neg (by decide)]; rfl
        · rw [if_neg h]; omega
    refine ⟨_, rfl, _, rfl, _, rfl, _, _, rfl, rfl, a, _, _, _, rfl, rfl, ha H3 s3, har, _, rfl, (by show 2 ≤ sizeLine; decide), fun p5 hp5 => ?_⟩
    have s5 := Same.new (o := .lst [V.int 1, V.int (-1)]) hp5
    refine ⟨_, rfl, _, rfl, qs, _, _, _, rfl, rfl, SqT.of (s5 _ _ (s3 _ _ gs)), hat, rfl, .inr ⟨_, rfl, p5, _, _, _, rfl, rfl, SqL.of upd_same, hsg, _, _, rfl, rfl, .inr (by rcases hs1 with rfl | rfl <;> exact ⟨by decide, by decide⟩), _, _, rfl, rfl, ?_⟩⟩
    refine ⟨some (.int (0 + (k : Int))), ?_, s3.trans s5⟩
    rw [take_snoc hn, take_snoc hsn, sgS_snoc _ _ _ _ (by rw [List.length_take, List.length_take]; omega), hput, ← Int.add_assoc]
    rfl
  · rintro σ H3 ⟨z, rfl, s3⟩
    have hlm : (ss.map V.str).length = ss.length := List.length_map _
    refine ⟨_, rfl, ?_⟩
    have := q H3 s3
    rw [List.take_of_length_le (by omega), List.take_of_length_le (by omega)]
    exact this
def spRef (K : PySem.W.Frag) : Sp := fun vs H Q _ => ∃ (a : Addr) (r0 : Int) (rest : List Int) (wish i : Int), vs = [.ref a, .int wish, .int i] ∧ (∀ H' : Hp, Same H H' → SqT K H' a ((r0 :: rest).map V.int)) ∧ RowS rest ∧ ¬ (0 ≤ i ∧ i < (dueS rest (wish - r0)).length) ∧
  ∀ (H' : Hp), Same H H' → Q (.bl true) H'
variable {W T S N : Addr} {bT bS bN : List Value}
abbrev s_law_refused : Stmt := top 18
theorem sc_law_refused : FnScope ["row", "wish", "place", "caught", "e"] ["row", "wish", "place"] (defScope s_law_refused) := ⟨rfl, rfl, rfl, by decide +kernel, rfl, by decide +kernel, by decide +kernel⟩
theorem ok_ref {f : Addr} {fd : FuncData} (F : Fun K "_law_refused" "_law_refused" s_law_refused f fd) (B : Blt mg) (R : Refs P w K mg base W T S N bT bS bN) (GatX : Def P w K mg base (CXF P w) 6 "sides_at" (spAtX K N)) (zValueError : mg "ValueError" = none) : FnOk P w K mg base CX0 10 f fd ["row", "wish", "place"] (spRef K) := by
  refine F.ok (k := 9) sc_law_refused (fun vs H Q E h => ?_) (fun cdv A outer s H vs Q E hr h => ?_)
  · obtain ⟨a, r0, rest, wish, i, rfl, _⟩ := h
    rfl
  obtain ⟨a, r0, rest, wish, i, rfl, ha, ok, hi, q⟩ := h
  refine ⟨_, (pss_cons (ps_set (i := 3) sc_law_refused.nd rfl (by first | exact Or.inl rfl | exact Or.inr rfl) pe_non)
      (pss_cons (ps_try (i := 4) sc_law_refused.nd rfl rfl rfl R.gW R.cW.xcls rfl rfl (fun EX pins => (pss_one (ps_expr (pe_defX GatX (hr.mono (by omega)) (pa_cons (pv 0) (pa_cons (pv 1) (pa_cons (pv 2) pa_nil))))))) (fun _ pins => (pss_one (ps_set (i := 3) sc_law_refused.nd rfl (by first | exact Or.inl rfl | exact Or.inr rfl) (pv 4)))))
      (pss_cons (ps_if (PW.pt (pw_or (pt_val (pe_isx B.isinstance (pv 3) (pe_tup (pa_cons (pe_glob (v := .ref S) rfl R.gS rfl) (pa_cons (pe_glob (v := .ref T) rfl R.gT rfl) pa_nil))))) (pw_or1 (pt_not (pt_val (pe_isx B.isinstance (pv 3) (pe_bltn (v := .ty "ValueError") rfl zValueError bt_ValueError rfl))))))) (pss_one (ps_ret pe_bl)) pss_nil)
      (pss_one (ps_ret (pe_and (pe_isx B.isinstance (pv 3) (pe_glob (v := .ref N) rfl R.gN rfl)) (pe_one (pe_cmpR op_eq (pe_xf (K := K) (pv 3)) pe_str (nomark _))))))))), ?_⟩
  refine ⟨_, rfl, _, rfl, _, rfl, a, r0, rest, wish, i, rfl, ha, ok, fun c => absurd c hi, fun _ dx H2 s2 nd hd => ?_⟩
  refine ⟨⟨N, bN, rfl, R.cN.xcls, R.nW⟩, fun e he => ?_⟩
  have hxe : upd H2 e (xO false (.ref N) (some dx) e) e = some (xO false (.ref N) (some dx) e) := upd_same
  have nde : dx ≠ e := ne_of_none hd he
  have hdx : upd H2 e (xO false (.ref N) (some dx) e) dx = some (xw "plus") := by rw [upd_ne nde]; exact hd
  refine ⟨_, rfl, ?_⟩
  refine ⟨_, rfl, (by show 2 ≤ sizeLine; decide), fun p hp => ?_⟩
  have kn : XKn K (upd (upd H2 e (xO false (.ref N) (some dx) e)) p (.tup [.ref S, .ref T])) e N bN := ⟨R.cN, false, some dx, Same.new hp _ _ hxe, fun d z => by cases z; exact ⟨_, Same.new hp _ _ hdx⟩⟩
  refine ⟨e, N, bN, _, rfl, kn, .inr (.inr ⟨p, S, T, bS, bT, rfl, upd_same, R.cS, R.cT, ?_⟩)⟩
  rw [R.nS, R.nT]
  refine ⟨_, rfl, iteF ?_⟩
  refine ⟨_, rfl, e, N, bN, _, rfl, kn, .inl ⟨rfl, _, rfl, iteF ?_⟩⟩
  have cNN : (Value.ref N :: bN).contains (.ref N) = true := by simp
  refine ⟨_, rfl, e, N, bN, _, rfl, kn, .inr (.inl ⟨N, bN, rfl, R.cN, ?_⟩)⟩
  rw [cNN]
  refine ⟨_, rfl, iteT ?_⟩
  refine ⟨_, rfl, e, N, bN, false, dx, _, .str "plus", rfl, R.cN, Same.new hp _ _ hxe, Same.new hp _ _ hdx, R.wN, rfl, rfl, ?_⟩
  have := q _ (s2.trans ((Same.new he).trans (Same.new (o := .tup [.ref S, .ref T]) hp)))
  rw [decide_eq_true rfl]
  exact this
end
end Law

set_option Elab.async false
set_option linter.all false
set_option maxRecDepth 100000
set_option maxHeartbeats 1000000
namespace L2
open PySem PySem.Spec PyProof.Rows
/-! for k in d -/
def Itk (d : Addr) (o : Obj) (kvs : List (Key × V)) : It :=
  ⟨fun i H => H d = some (.frz o (.dK kvs)) ∧ i < kvs.length,
   fun i H v H' => H' = H ∧ ∃ k x, v = kV k ∧ kvs[i]? = some (k, x),
   fun i H => H d = some (.frz o (.dK kvs)) ∧ kvs.length ≤ i⟩
theorem pyIter_keyiter {prog : Program} {w : World} {A : Around} {E : Value → Shared → Prop} {s : Shared} {it d : Addr} {i n ep : Nat} {Q : Value → Shared → Prop} (hit : s.heap.IsKeyIter it d i n ep) (h : Q (.ref it) s) : wpAny (model prog w) A (pyIter (.ref it)) Q E s := by
  refine wpAny_pyIter_slot hit.typeIs PySem.F.slot_dict_keyiterator_iter (wpAny_call_entry PySem.F.slot_dict_keyiterator_iter hit.typeIs PySem.F.entry_dict_keyiterator_iter ?_ (PySem.F.args_dict_keyiterator_iter_1 _))
  show wpAny _ _ (ret (.ref it)) _ _ s
  exact wpAny_pure ⟨_, rfl, "dict_keyiterator", _, hit.typeIs, PySem.F.slot_dict_keyiterator_next.lookup, h⟩
theorem turn_keys {P : Program} {w : World} {K : PySem.W.Frag} {tg : Expr} {d it : Addr} {o : Obj} {kvs : List (Key × V)} {de : Array DictEntry} {ep : Nat} (hd : o.data = .dict de ep) (hne : d ≠ it) :
    Turn P w K tg (Itk d o kvs) [it] it (fun i h => h.IsKeyIter it d i kvs.length ep) where
  mem := by simp
  obj := fun i h st b hb => by
    obtain ⟨oi, a1, a2, a3⟩ := st
    rw [List.mem_singleton.mp hb]
    exact ⟨_, a1, fun v e => by rw [a3] at e; cases e⟩
  keep := fun i h h' st kp => by
    obtain ⟨oi, a1, a2⟩ := st
    exact ⟨oi, kp it (by simp) _ a1, a2⟩
  item := by
    intro X hP hw hK hc k pins s σ H E I hf st hg
    subst hP hw hK
    obtain ⟨hfz, hlt⟩ := hg
    obtain ⟨hgo, z, hsm, vs, rel, o2, es2, ep2, e2, c2, d2, k2, p2, n2⟩ := I.hok d _ hfz
    rw [hgo] at e2; cases e2
    rw [hd] at d2; cases d2
    obtain ⟨⟨ky, x⟩, hx⟩ : ∃ p, kvs[k]? = some p := ⟨kvs[k], List.getElem?_eq_getElem hlt⟩
    obtain ⟨u, hu, ru⟩ := rel.get hx
    have hl : kvs.length = vs.length := rel.length
    rw [hl] at st
    refine wpAny_pyNext_dict_item (knd := mixKind X.prog X.w) st ⟨_, _, hgo, c2, hd, k2, p2, n2⟩ hu fun key g hk hit' sb => ⟨_, rfl, ?_⟩
    have fi := hf it (by simp)
    obtain ⟨o3, q1, q2, q3⟩ := id hit'
    refine go_of q1 q2 q3 (by decide) ?_
    refine ⟨kV ky, H, I.turned (t' := s.toks) (fun b o nb e => by rw [sb.2 b nb]; exact e) fi.1 fi.2.1 fi.2.2.2.1 fi.2.2.2.2.1 fi.2.2.2.2.2, key_rel hk, ⟨rfl, ky, x, rfl, hx⟩, by rw [hl]; exact hit', fun b hb => ?_⟩
    rw [List.mem_singleton.mp hb]; exact fi.1
  done := by
    intro X hP hw hK hc k pins s σ H E I hf st hg
    subst hP hw hK
    obtain ⟨hfz, hend⟩ := hg
    obtain ⟨hgo, z, hsm, vs, rel, o2, es2, ep2, e2, c2, d2, k2, p2, n2⟩ := I.hok d _ hfz
    rw [hgo] at e2; cases e2
    rw [hd] at d2; cases d2
    have hl : kvs.length = vs.length := rel.length
    rw [hl] at st
    refine wpAny_pyNext_dict_end (knd := mixKind X.prog X.w) (I.ok.hd hc) st ⟨_, _, hgo, c2, hd, k2, p2, n2⟩ (List.getElem?_eq_none (by omega)) fun g eb => ⟨rfl, ?_⟩
    have fi := hf it (by simp)
    exact I.turned (t' := s.toks) (fun b o nb e => eb b o nb e) fi.1 fi.2.1 fi.2.2.2.1 fi.2.2.2.2.1 fi.2.2.2.2.2
  self := fun A i s Q E st h => pyIter_keyiter st h
section
variable {X : Cx} {tg : Expr}
def iKeysD (to : TE) : TI := fun σ H R => to σ H fun x H1 => ∃ (d : Addr) (kvs : List (Key × V)), x = .ref d ∧ ((H1 d = some (.dK kvs) ∧ ∀ o, R (Itk d o kvs) (upd H1 d (.frz o (.dK kvs)))) ∨ ∃ o, H1 d = some (.frz o (.dK kvs)) ∧ R (Itk d o kvs) H1)
theorem pi_keysD {e : Expr} {te : TE} (he : PE X e te) : PI X tg e (iKeysD te) := by
  intro pins s σ H R I h
  refine thn (he pins s σ H _ I h) fun v s1 ⟨y, H1, I1, r1, d, kvs, ey, q⟩ => ?_
  subst ey
  cases r1
  have rd : Rd H1 d (.dK kvs) := by
    rcases q with ⟨q, _⟩ | ⟨o, q, _⟩
    · exact .inl q
    · exact .inr ⟨o, q⟩
  obtain ⟨z, hsys, vs, rel, o, es1, ep, e1, ex, e2, e3⟩ := dk_rd I1.hok rd
  obtain ⟨H2, I2, fz, r⟩ : ∃ H2, Inv X pins σ H2 s1 ∧ H2 d = some (.frz o (.dK kvs)) ∧ R (Itk d o kvs) H2 := by
    rcases q with ⟨q, r⟩ | ⟨o', q, r⟩
    · exact ⟨_, I1.frozen q e1, upd_same, r o⟩
    · have : o' = o := by
        have := (I1.hok d _ q).1
        rw [e1] at this; cases this; rfl
      subst this
      exact ⟨H1, I1, q, r⟩
  refine wpAny_pyIter_dict (knd := mixKind X.prog X.w) (kvs := vs) (ep := ep) hsys ⟨o, es1, e1, ex, e2, e3⟩ ?_
  refine ⟨_, _, _, _, H2, rfl, I2.kept (t' := s1.toks) fun b o e => Heap.get?_push_of_some _ e, turn_keys (o := o) (kvs := kvs) e2 (Nat.ne_of_lt (Heap.lt_size e1)), ⟨_, Heap.get?_push_size _ rfl, rfl, ?_⟩, fun b hb => ?_, r⟩
  · rw [rel.length]; rfl
  · have e : b = s1.heap.objs.size := by simpa using hb
    subst e
    exact I2.fpOk (Nat.le_refl _) (I2.hok.fresh (Nat.le_refl _))
theorem for_keysD {d : Addr} {o : Obj} {kvs : List (Key × V)} {g : TG} {tb : TS} {D : Ends} {σ : St} {H : Hp} (Pv : Nat → St → Hp → Prop) (h0 : Pv 0 σ H) (hz : ∀ i σ H, Pv i σ H → H d = some (.frz o (.dK kvs)))
    (hs : ∀ i k x σ H, kvs[i]? = some (k, x) → Pv i σ H → g (kV k) σ H fun σ2 H2 => tb { D with nx := Pv (i + 1), ct := Pv (i + 1), bk := D.nx } σ2 H2) (hd : ∀ σ H, Pv kvs.length σ H → D.nx σ H) :
    ∃ W : Nat → Nat → St → Hp → Prop, (∃ m, W 0 m σ H) ∧ ∀ i m σ H, W i m σ H →
      ((Itk d o kvs).stop i H ∧ D.nx σ H) ∨ ((Itk d o kvs).go i H ∧ ∃ N : St → Hp → Prop, (∀ σ' H', N σ' H' → ∃ m', m' < m ∧ W (i + 1) m' σ' H') ∧ ∀ x H', (Itk d o kvs).yld i H x H' → g x σ H' fun σ2 H2 => tb { D with nx := N, ct := N, bk := D.nx } σ2 H2) := by
  refine ⟨fun i m σ H => m = kvs.length - i ∧ i ≤ kvs.length ∧ Pv i σ H, ⟨kvs.length, by simp, Nat.zero_le _, h0⟩, ?_⟩
  rintro i m σ H ⟨rfl, hi, p⟩
  by_cases hlt : i < kvs.length
  · refine .inr ⟨⟨hz i σ H p, hlt⟩, Pv (i + 1), fun σ' H' p' => ⟨kvs.length - (i + 1), by omega, rfl, hlt, p'⟩, fun v H' y => ?_⟩
    obtain ⟨rfl, k, x, rfl, hx⟩ := y
    exact hs i k x σ H' hx p
  · have e : i = kvs.length := by omega
    subst e
    exact .inl ⟨⟨hz _ σ H p, Nat.le_refl _⟩, hd σ H p⟩
end
end L2

set_option Elab.async false
set_option linter.all false
set_option maxRecDepth 100000
set_option maxHeartbeats 4000000
namespace L2
open PySem PySem.Spec PyProof.Rows
/-! l < m of lists of ints, of the same length -/
section
open PySem.SeqAt
open PySem.AutoSeq1 (wpAny_loadPart')
open PySem.MeetsSeq PySem.MeetsSeq2 PySem.MeetsSeq3
theorem ints_ix : ∀ {vs : List Value} {ns : List Int}, IntsAre vs ns → ∀ (i : Nat) (h : i < vs.length), ∃ a t, vs[i] = .int a t ∧ ns.drop i = a :: ns.drop (i + 1)
  | _, _, .cons a t _, 0, _ => ⟨a, t, rfl, rfl⟩
  | _, _, .cons a t r, i + 1, h => ints_ix r i (by simpa using h)
theorem lt_loopI (l b : Addr) (items items2 : Array Value) (n n2 : Nat) (dd dd2 : Option Addr) (sl sl2 : Array (Option Value)) (hsz : items.size = items2.size) (ns ms : List Int) (hi : IntsAre items.toList ns) (hj : IntsAre items2.toList ms) (k : Nat) :
    ∀ i : Nat, items.size - i = k → Meets (Builtin.«list.__eq__.loop» ⟨[.ref l, .ref b, rawInt i, rawInt 0], []⟩)
      (fun A R s => s.heap.get? l = some { cls := .type "list", dict := dd, data := .seq items n, slots := sl } ∧ s.heap.get? b = some { cls := .type "list", dict := dd2, data := .seq items2 n2, slots := sl2 } ∧
        R (.ok (.ret (.bool (HT.lexLt (ns.drop i) (ms.drop i))))) s) := by
  induction k with
  | zero =>
    intro i hk prog w A R s h
    obtain ⟨hp, g, d, tk, os⟩ := s; obtain ⟨hl, hb, h⟩ := h
    wp_walk using wpAny_loadPart' hl, wpAny_loadPart' hb
    have hi1 : items[((i : Nat) : Int).toNat]? = none := by simp; omega
    have hi2 : items2[((i : Nat) : Int).toNat]? = none := by simp; omega
    have l1 := hi.length
    have l2 := hj.length
    rw [Array.length_toList] at l1 l2
    rw [List.drop_of_length_le (by omega), List.drop_of_length_le (by omega)] at h
    rw [hi1, hi2]
    wp_walk using wpAny_loadPart' hl, wpAny_loadPart' hb
    show R (.ok (.ret (.bool (decide (items.size < items2.size))))) _
    rw [hsz, decide_eq_false (Nat.lt_irrefl _)]
    exact h
  | succ k ih =>
    intro i hk prog w A R s h
    obtain ⟨hp, g, d, tk, os⟩ := s; obtain ⟨hl, hb, h⟩ := h
    wp_walk using wpAny_loadPart' hl, wpAny_loadPart' hb
    have hlt : i < items.size := by omega
    have hlt2 : i < items2.size := by omega
    have hi1 : items[((i : Nat) : Int).toNat]? = some items[i] := by simp [hlt]
    have hi2 : items2[((i : Nat) : Int).toNat]? = some items2[i] := by simp [hlt2]
    have hc : ((i : Int) + 1) = ((i + 1 : Nat) : Int) := by push_cast; rfl
    obtain ⟨a, t, e1, d1⟩ := ints_ix hi i (by simpa using hlt)
    obtain ⟨c, u, e2, d2⟩ := ints_ix hj i (by simpa using hlt2)
    rw [Array.getElem_toList] at e1 e2
    rw [d1, d2, HT.lexLt_cons] at h
    rw [hi1, hi2, e1, e2]
    obtain ⟨e, he, hiff⟩ := HT.eqAt_int A.in1 ⟨hp, g, d, tk, os⟩ a t c u
    refine wpAny_bind (he prog w _ _ ?_)
    cases e with
    | true =>
      rw [if_pos (hiff.mp rfl)] at h
      wp_walk
      rw [hc]
      exact ⟨plainId_quiet plain_eq_loop _, codeAny_builtin entry_eq_loop (by
        rw [Around.under_plainId plain_eq_loop _]
        exact ih (i + 1) (by omega) prog w A R _ ⟨hl, hb, h⟩)⟩
    | false =>
      rw [if_neg (fun q => absurd (hiff.mpr q) Bool.false_ne_true)] at h
      have hri := HT.rcLt_int A.in1 ⟨hp, g, d, tk, os⟩ a t c u prog w
      wp_walk using wpAny_loadPart' hl, wpAny_loadPart' hb
      rw [hi1, hi2, e1, e2]
      wp_walk using hri
      exact h
theorem list_ltI (l b : Addr) (items items2 : Array Value) (n n2 : Nat) (dd dd2 : Option Addr) (sl sl2 : Array (Option Value)) (hsz : items.size = items2.size) (ns ms : List Int) (hi : IntsAre items.toList ns) (hj : IntsAre items2.toList ms) :
    Meets (Builtin.«list.__lt__» ⟨[.ref l, .ref b], []⟩)
      (fun A R s => s.heap.get? l = some { cls := .type "list", dict := dd, data := .seq items n, slots := sl } ∧ s.heap.get? b = some { cls := .type "list", dict := dd2, data := .seq items2 n2, slots := sl2 } ∧
        R (.ok (.ret (.bool (HT.lexLt ns ms)))) s) := by
  intro prog w A R s h
  obtain ⟨hp, g, d, tk, os⟩ := s; obtain ⟨hl, hb, h⟩ := h
  have f3 := AutoSeq1.sub_list_list
  wp_walk using wpAny_loadPart' hl, wpAny_loadPart' hb
  exact ⟨plainId_quiet plain_eq_loop _, codeAny_builtin entry_eq_loop (by
    rw [Around.under_plainId plain_eq_loop _]
    exact lt_loopI l b items items2 n n2 dd dd2 sl sl2 hsz ns ms hi hj _ 0 rfl prog w A R _ ⟨hl, hb, h⟩)⟩
end
variable {X : Cx}
theorem op_ltL (hu : X.A.units + 60 < cLine) : OpR X (compareOp .Lt) (fun x y H Q => ∃ a b ns ms, x = .ref a ∧ y = .ref b ∧ SqL X.K H a (ns.map V.int) ∧ SqL X.K H b (ms.map V.int) ∧ ns.length = ms.length ∧ Q (.bl (HT.lexLt ns ms)) H) := by
  intro pins s σ H x y v u Q I rx ry h
  obtain ⟨a, b, ns, ms, rfl, rfl, ha, hb, hl, q⟩ := h
  cases rx
  cases ry
  obtain ⟨its, r1, p1, _⟩ := I.list ha
  obtain ⟨its2, r2, p2, _⟩ := I.list hb
  have i1 : IntsAre its.toArray.toList ns := intsAre_of r1
  have i2 : IntsAre its2.toArray.toList ms := intsAre_of r2
  obtain ⟨⟨cls, dd, data, sl⟩, ho, hc, n, hd⟩ := p1.isList
  obtain ⟨⟨cls2, dd2, data2, sl2⟩, ho2, hc2, n2, hd2⟩ := p2.isList
  simp only at hc hd hc2 hd2
  subst hc hd hc2 hd2
  have l1 := r1.length
  have l2 := r2.length
  rw [List.length_map] at l1 l2
  exact richCompare_meets_room (op := .Lt) ⟨_, ho, rfl⟩ ⟨_, ho2, rfl⟩ PySem.F.slot_list_lt PySem.F.entry_list_lt (PySem.F.args_list_lt_2 _ _) (list_ltI a b its.toArray its2.toArray n n2 dd dd2 sl sl2 (by rw [List.size_toArray, List.size_toArray]; omega) ns ms i1 i2)
    ⟨ho, ho2, ⟨(fun x => nomatch x), .bl (HT.lexLt ns ms), H, I, rfl, q⟩⟩ (by omega)
/-! max of a tuple of ints: an int -/
theorem call_maxT (hc : X.calm = true) : CallR X (.builtin "max") (fun xs H Q => ∃ (p : Addr) (ns : List Int), xs = [.ref p] ∧ SqT X.K H p (ns.map V.int) ∧ 0 < ns.length ∧ ∀ m : Int, Q (.int m) H) := by
  intro pins s σ H xs us Q I r h
  obtain ⟨p, ns, rfl, hS, hn, q⟩ := h
  obtain ⟨u, rfl, rx⟩ := vals1 r
  obtain rfl : u = Value.ref p := rx
  obtain ⟨its, rv, pl, hz⟩ := I.tuple hS
  have hp : s.heap.IsTuple p its.toArray := pl
  have hlt : p < s.heap.objs.size := pl.lt
  have hlen := rv.length
  rw [List.length_map] at hlen
  have hval : ∀ i v, its[i]? = some v → ∃ t, v = Value.int (ns.getD i 0) t := fun i v hv' => by
    have hi : i < (ns.map V.int).length := by rw [rv.length]; exact (List.getElem?_eq_some_iff.mp hv').1
    obtain ⟨u, e1, r1⟩ := rv.get (i := i) (x := .int (ns.getD i 0)) (by
      rw [List.length_map] at hi
      rw [List.getElem?_map, List.getD_eq_getElem?_getD, List.getElem?_eq_getElem hi]; rfl)
    rw [hv'] at e1
    cases e1
    exact r1
  refine call_max_walk (wpAny_pyIter_tuple hp ?_)
  refine ⟨_, _, _, _, _, _, _, rfl, Walks.tuple (A := X.A.in1) (I.ok.hd hc) s.heap.objs.size p (Nat.ne_of_lt hlt) its.toArray, ⟨⟨_, Heap.get?_push_size _ rfl, rfl, rfl⟩, hp.push _⟩, fun b hb => ?_, by show 0 < its.toArray.size; rw [List.size_toArray]; omega, CmpOf.ints_gt (fun i => ns.getD i 0) (fun i v hv => hval i v (by simpa using hv)), fun v h' tk hP hk => ?_⟩
  · show b < (s.heap.push _).objs.size
    rw [Heap.size_push]
    rcases List.mem_cons.mp hb with rfl | hb
    · exact Nat.lt_succ_self _
    · rcases List.mem_cons.mp hb with rfl | hb
      · exact Nat.lt_succ_of_lt hlt
      · cases hb
  · obtain ⟨t, rfl⟩ := hval _ v (by simpa using hP)
    refine ⟨.int _, H, I.kept fun b o e => hk b o (fun z => ?_) (Heap.get?_push_of_some _ e), ⟨t, rfl⟩, q _⟩
    exact absurd (Heap.lt_size e) (by rw [List.mem_singleton.mp z]; exact Nat.lt_irrefl _)
end L2

set_option Elab.async false
set_option linter.all false
set_option maxRecDepth 100000
set_option maxHeartbeats 4000000
namespace L2
open PySem PySem.Spec PyProof.Rows
section
variable {prog : Program} {w : World} {A : Around} {E : Value → Shared → Prop} {s : Shared}
/-- set of a tuple of ints -/
theorem set_GT {l : Addr} {items : Array Value} {ns : List Int} {Q : Value → Shared → Prop}
    (hh : A.handled = none) (hl : s.heap.IsTuple l items) (hi : ∀ (i : Nat) (v : Value), items[i]? = some v → ∃ k t, v = .int k t ∧ ns[i]? = some k) (hb : items.size < 4095) (hns : ns.length = items.size)
    (h : ∀ (h' : Heap) (tk : Nat), SetG prog w h' s.heap.objs.size (ddI ns) → (∀ b o, b < s.heap.objs.size → s.heap.get? b = some o → h'.get? b = some o) → Q (.ref s.heap.objs.size) { s with heap := h', toks := tk }) :
    wpAny (model prog w) A (call (.type "set") [.ref l]) Q E s := by
  obtain ⟨c, tl, hmro⟩ := F.called_set.mro
  have hmade := F.called_set.made
  have hsub := F.called_set.sub
  refine wpAny_call (codeAny_of_tree ?_)
  show wpAny _ _ (callAny (.type "set") _) _ _ _
  refine wpAny_pure ⟨Code.quiet_builtin _ (by decide +kernel), codeAny_builtin F.entry_type_call ?_⟩
  rw [Around.under_plain (weight_type_call_type "set" [.ref l] []) rfl]
  have h1 := F.called_set.notType
  have h2 := F.called_set.canCreate
  have hct := F.typeCall_set_1 (.ref l)
  repeat (any_goals (first | assumption | wp_step))
  refine codeAny_mono (new_L (.ref l) (E := E) (Q₁ := fun obj s₁ => obj = .ref s.heap.objs.size ∧ s₁ = { s with heap := s.heap.push (newS w) }) ⟨rfl, rfl⟩) fun r s₁ hr => ?_
  cases r with
  | error e => exact hr
  | ok fl =>
    cases fl with
    | ret obj =>
      obtain ⟨rfl, rfl⟩ := hr
      have hS : (s.heap.push (newS w)).get? s.heap.objs.size = some (newS w) := Heap.get?_push_size _ rfl
      have hT : Shared.TypeIs { s with heap := s.heap.push (newS w) } (.ref s.heap.objs.size) "set" := ⟨_, hS, rfl⟩
      have hli := F.called_set.init.lookup
      have hbi := F.called_set.init.bind (.ref s.heap.objs.size)
      repeat (any_goals (first | assumption | wp_step))
      refine codeAny_mono (codeAny_call_builtin (R := wants (fun r s₂ => r = .none ∧ ∃ h' tk, s₂ = { s with heap := h', toks := tk } ∧ SetG prog w h' s.heap.objs.size (ddI ns) ∧
          (∀ b o, b < s.heap.objs.size → s.heap.get? b = some o → h'.get? b = some o)) E) F.called_set.init.plain F.entry_set_init (check_set_init_1 hT ?_)) fun r₂ s₂ hr₂ => ?_
      · obtain ⟨ol, hol, hcl, nl, hdl⟩ := hl
        obtain ⟨ocls, odict, odata, oslots⟩ := ol
        simp only at hcl hdl
        subst hcl; subst hdl
        have hol' : (s.heap.push (newS w)).get? l = some { cls := .type "tuple", dict := odict, data := .seq items nl, slots := oslots } := Heap.get?_push_of_some _ hol
        have hsls := F.sub_tuple_set
        have hslf := F.sub_tuple_frozenset
        have hne : (Value.type "tuple" == Value.type "dict") = false := by decide
        have hl1 : (s.heap.push (newS w)).IsTuple l items := ⟨_, hol', rfl, nl, rfl⟩
        unfold Builtin.«set.__init__» noKeywords Builtin.Frozenset.updateFrom
        generalize hPI : pyIter = PI
        wp_walk
        subst hPI
        refine wpAny_pyIter_tuple hl1 (wpAny_bind (wpAny_runValue ?_))
        have hlS : l < s.heap.objs.size := Heap.lt_size hol
        have hh3 : A.in1.in1.in1.handled = none := by simp [hh]
        have zN : (s.heap.push (newS w)).objs.size = s.heap.objs.size + 1 := Heap.size_push _ _
        have hneI : l ≠ (s.heap.push (newS w)).objs.size := by rw [zN]; exact Nat.ne_of_lt (Nat.lt_succ_of_lt hlS)
        have hSf : s.heap.objs.size ∉ [(s.heap.push (newS w)).objs.size, l] := by
          rw [zN]
          simp only [List.mem_cons, List.not_mem_nil, or_false, not_or]
          exact ⟨Nat.ne_of_lt (Nat.lt_succ_self _), Nat.ne_of_gt hlS⟩
        refine loop_G ((Walks.tuple hh3 _ l hneI items).toS) s.heap.objs.size hSf ns hi hb (items.size - 0) 0 _ (by omega) (Nat.zero_le _) ⟨⟨_, Heap.get?_push_size _ rfl, rfl, rfl⟩, (hl1.push _)⟩ ?hS0 ?hR
        case hS0 => rw [List.take_zero]; exact newS_G (Heap.get?_push_of_some _ hS)
        case hR =>
          intro s' hm hS'
          obtain ⟨h', g', d', tk', os'⟩ := s'
          have eg : g' = s.gens := hm.gens
          have ed : d' = s.drawn := hm.drawn
          have eo : os' = s.os := hm.os
          subst eg; subst ed; subst eo
          rw [← hns, List.take_length] at hS'
          show wpAny _ _ _ _ _ _
          refine wpAny_pure ?_
          show wpAny _ _ (ret Value.none) _ _ _
          refine wpAny_pure ⟨rfl, h', tk', rfl, hS', fun b o hb e => ?_⟩
          exact hm.heap b o (by rw [zN]; simp only [List.mem_cons, List.not_mem_nil, or_false, not_or]; exact ⟨Nat.ne_of_lt hb, Nat.ne_of_lt (Nat.lt_succ_of_lt hb)⟩) (Heap.get?_push_of_some _ (Heap.get?_push_of_some _ e))
      · cases r₂ with
        | error e => exact hr₂
        | ok fl₂ =>
          cases fl₂ with
          | ret r =>
            obtain ⟨rfl, h', tk, rfl, hS', hk'⟩ := hr₂
            repeat (any_goals (first | assumption | wp_step))
            exact h _ _ hS' hk'
          | _ => exact hr₂.elim
    | _ => exact hr.elim
end
end L2

set_option Elab.async false
set_option linter.all false
set_option maxRecDepth 100000
set_option maxHeartbeats 4000000
namespace L2
open PySem PySem.Spec PyProof.Rows PySem.W
section
variable {X : Cx}
/-- sorted(set(t)), t a tuple of ints -/
def tSortSetT (K : PySem.W.Frag) (ta : TE) : TE := fun σ H Q => ta σ H fun x H1 => ∃ (l : Addr) (ns : List Int), x = .ref l ∧ SqT K H1 l (ns.map V.int) ∧ ns.length ≤ 4000 ∧
  ∀ (p : Addr) (ms : List Int) (H' : Hp), Same H1 H' → H' p = some (.lst (ms.map V.int)) → ms.Pairwise (· < ·) → (∀ m, m ∈ ms ↔ m ∈ ns) → Q (.ref p) H'
theorem pe_sortSetT {a : Expr} {ta : TE} {p p2 p3 pos : Pos} (hc : X.calm = true) (ha : PE X a ta) (hms : X.mg "sorted" = none) (hmt : X.mg "set" = none)
    (hgs : Gl X "sorted" := by rfl) (hgt : Gl X "set" := by rfl) (hs : starEach [a] X.env = [(false, eval a X.env)] := by rfl)
    (hs2 : starEach [Expr.Call (.Name "set" p2) [a] [] p3] X.env = [(false, eval (Expr.Call (.Name "set" p2) [a] [] p3) X.env)] := by rfl) :
    PE X (.Call (.Name "sorted" p) [.Call (.Name "set" p2) [a] [] p3] [] pos) (tSortSetT X.K ta) := by
  intro pins s σ H Q I h
  have hh : X.A.handled = none := I.ok.hd hc
  refine wpAny_Call_Name_kw (ld_blt I hgs hms bt_sorted ?_)
  refine PyProof.Rows.callWith_builtin1 ?_ hs2 rfl
  show wpAny _ _ (spliced ((false, eval (Expr.Call (.Name "set" p2) [a] [] p3) X.env) :: backTo pos [])) _ _ s
  refine Calls.spliced_cons ?_
  refine wpAny_Call_Name_kw (ld_blt I hgt hmt bt_set ?_)
  refine PyProof.Rows.callWith_type1 (thn ((pa_cons ha pa_nil hs) p3 pins s σ H (fun vs H1 => match vs with
    | [x] => ∃ (l : Addr) (ns : List Int), x = .ref l ∧ SqT X.K H1 l (ns.map V.int) ∧ ns.length ≤ 4000 ∧
  ∀ (p : Addr) (ms : List Int) (H' : Hp), Same H1 H' → H' p = some (.lst (ms.map V.int)) → ms.Pairwise (· < ·) → (∀ m, m ∈ ms ↔ m ∈ ns) → Q (.ref p) H'
    | _ => False) I h) fun us s1 ⟨vs, H1, I1, r1, q0⟩ => ?_) hs rfl
  obtain ⟨x, rfl, l, ns, rfl, hl, h4, q⟩ : ∃ x, vs = [x] ∧ ∃ (l : Addr) (ns : List Int), x = .ref l ∧ SqT X.K H1 l (ns.map V.int) ∧ ns.length ≤ 4000 ∧
      ∀ (p : Addr) (ms : List Int) (H' : Hp), Same H1 H' → H' p = some (.lst (ms.map V.int)) → ms.Pairwise (· < ·) → (∀ m, m ∈ ms ↔ m ∈ ns) → Q (.ref p) H' := by
    match vs, q0 with
    | [x], q0 => exact ⟨x, rfl, q0⟩
  obtain ⟨u, rfl, ru⟩ := vals1 r1
  cases ru
  obtain ⟨its, rv, pl, hz⟩ := I1.tuple hl
  have len := rv.length
  rw [List.length_map] at len
  refine set_GT hh (show s1.heap.IsTuple l its.toArray from pl) (fun i v e => ints_nth rv i v (by simpa using e)) (by show its.length < 4095; omega) (by show ns.length = its.length; omega) fun h' tk hS hk => ?_
  refine Calls.spliced_nil ?_
  have I2 : Inv X pins σ H1 { s1 with heap := h', toks := tk } := I1.kept (fun b o e => hk b o (Heap.lt_size e) e)
  have hnd : (ddI ns).Nodup := by
    obtain ⟨_, _, _, _, _, _, _, _, _, nd, _⟩ := hS
    exact nd
  have hdl := ddI_len ns
  refine sorted_tail (C := fun ms => ms.Perm (ddI ns)) (fun Q2 E2 hq => collect_G hh hS hq) (fun ms hp => by have := hp.length_eq; omega) fun out ms ms' g e tk2 d' pp hC a1 a2 a3 k1 hp at1 => ?_
  have hf : H1 pp = none := I2.hok.fresh hp
  have hpm := a2.trans hC
  have l2 := hpm.length_eq
  have I3 : Inv X pins σ (upd H1 pp (.lst (ms'.map V.int))) { s1 with heap := g, toks := tk2 } := I2.laid (t' := tk2) k1 hp ⟨by rw [List.length_map, sizeLine_eq]; omega, out.toList, e, vals_ints a1, at1⟩
  refine ⟨.ref pp, upd H1 pp (.lst (ms'.map V.int)), I3.drew d', rfl, q _ ms' _ (fun b o e => by rw [upd_ne (ne_of_none e hf)]; exact e) upd_same (strict_of a3 (hpm.nodup_iff.mpr hnd)) fun m => ?_⟩
  rw [hpm.mem_iff, ddI_mem]
end
end L2

set_option Elab.async false
set_option linter.all false
set_option maxRecDepth 100000
set_option maxHeartbeats 1000000
namespace Law
open PySem L2
section
variable {P : Program} {w : World} {K : PySem.W.Frag} {mg : Str → Option Value} {base : Heap}
theorem valV_at : ∀ {ps : Ps} {i : Nat} {c v : Int}, (keysP ps).Nodup → ps[i]? = some (c, v) → valV (ps.map kvI) (Sum.inl c) = some (.int v)
  | [], _, _, _, _, h => by cases h
  | (k, x) :: r, 0, c, v, nd, h => by
    cases h
    rw [List.map_cons, valV_pos (by show (Sum.inl k : Key) = Sum.inl k; rfl)]; rfl
  | (k, x) :: r, i + 1, c, v, nd, h => by
    obtain ⟨h1, h2⟩ := List.nodup_cons.mp nd
    have hr : r[i]? = some (c, v) := h
    have hm : c ∈ keysP r := List.mem_map.mpr ⟨(c, v), List.mem_of_getElem? hr, rfl⟩
    rw [List.map_cons, valV_neg (by show ¬ (Sum.inl k : Key) = Sum.inl c; intro z; cases z; exact h1 hm)]
    exact valV_at h2 hr
def stepB (v : Int) (acc : Ps) (k : Int) : Ps := putI acc k (look acc k + v)
theorem stepB_E (n c v : Int) (acc : Ps) : stepB v (stepB v acc (c + n)) (c - n) = stepE n acc (c, v) := by
  unfold stepE stepA stepB
  dsimp only
  rw [show c + 1 * n = c + n by omega, show c + -1 * n = c - n by omega]
theorem sqt_upd {H : Hp} {a d : Addr} {xs : List V} {l : List (Key × V)} {o : HO} (h : SqT K H a xs) (hd : H d = some (.dK l)) : SqT K (upd H d o) a xs := by
  rcases h with (h | ⟨o, h⟩) | h
  · exact .inl (.inl (by rw [upd_ne (fun z => by rw [z, hd] at h; cases h)]; exact h))
  · exact .inl (.inr ⟨o, by rw [upd_ne (fun z => by rw [z, hd] at h; cases h)]; exact h⟩)
  · exact .inr h
theorem sqt_same {H H' : Hp} {a : Addr} {xs : List V} (s : Same H H') (h : SqT K H a xs) : SqT K H' a xs := by
  rcases h with (h | ⟨o, h⟩) | h
  · exact .inl (.inl (s _ _ h))
  · exact .inl (.inr ⟨o, s _ _ h⟩)
  · exact .inr h
def spCnt (K : PySem.W.Frag) : Sp := fun vs H Q _ => ∃ (a : Addr) (r0 : Int) (rest : List Int), vs = [.ref a] ∧ (∀ H' : Hp, Same H H' → SqT K H' a ((r0 :: rest).map V.int)) ∧ RowS rest ∧
  ∀ (p : Addr) (H' : Hp), Same H H' → H p = none → H' p = some (.dK ((fwd r0 rest).map kvI)) → Q (.ref p) H'
abbrev s_law_counts : Stmt := top 15
theorem sc_law_counts : FnScope ["row", "counts", "number", "behind", "total", "after"] ["row"] (defScope s_law_counts) := ⟨rfl, rfl, rfl, by decide +kernel, rfl, by decide +kernel, by decide +kernel⟩
theorem ok_cnt {f : Addr} {fd : FuncData} (F : Fun K "_law_counts" "_law_counts" s_law_counts f fd) (B : Blt mg) : FnOk P w K mg base CX0 1 f fd ["row"] (spCnt K) := by
  refine F.ok (k := 0) sc_law_counts (fun vs H Q E h => ?_) (fun cdv A outer s H vs Q E hr h => ?_)
  · obtain ⟨a, r0, rest, rfl, _⟩ := h
    rfl
  obtain ⟨a, r0, rest, rfl, ha, hl, q⟩ := h
  refine ⟨_, (pss_cons (ps_set (i := 1) sc_law_counts.nd rfl (by first | exact Or.inl rfl | exact Or.inr rfl) (pe_disp (pps_cons (pe_ix ix_tup (pv 0) pe_int (fun _ _ => rfl)) pe_int pps_nil) rfl rfl (by simp) (by decide)))
      (pss_cons (ps_for PassesOwn.never rfl (pi_tup (pe_slice sl_tupS (pv 0) (po_some pe_int) po_none)) (pg_name (i := 2) sc_law_counts.nd rfl (by first | exact Or.inl rfl | exact Or.inr rfl)) (pss_cons (ps_set (i := 3) sc_law_counts.nd rfl (by first | exact Or.inl rfl | exact Or.inr rfl) pe_dnewK)
      (pss_cons (ps_for PassesOwn.never rfl (pi_keysD (pv 1)) (pg_name (i := 4) sc_law_counts.nd rfl (by first | exact Or.inl rfl | exact Or.inr rfl)) (pss_one (ps_for PassesOwn.never rfl (pi_tup (pe_tup (pa_cons (pe_op op_add (pv 4) (pv 2)) (pa_cons (pe_op op_sub (pv 4) (pv 2)) pa_nil)))) (pg_name (i := 5) sc_law_counts.nd rfl (by first | exact Or.inl rfl | exact Or.inr rfl)) (pss_one (ps_dput (hu_of hr) (pv 3) (pv 5) (pe_op op_add (pe_dget2 (hu_of hr) (pv 3) (pv 5) pe_int ⟨rfl, rfl, rfl, rfl⟩) (pe_dget (hu_of hr) (pv 1) (pv 4) (fun _ _ => rfl))) rfl)))))
      (pss_one (ps_set (i := 1) sc_law_counts.nd rfl (by first | exact Or.inl rfl | exact Or.inr rfl) (pv 3))))))
      (pss_one (ps_ret (pv 1))))), ?_⟩
  have szl := sizeLine_eq
  have hl1 := hl.1
  refine fun pd hpd => ⟨_, rfl, a, _, 0, .int r0, rfl, rfl, ha _ (Same.new hpd), (by exact atI_nat (j := 0) rfl), upd_same, [(Sum.inl r0, .int 1)], rfl, (by show 1 ≤ 15; decide), ?_⟩
  have e0 : mergeK [] [((Sum.inl r0 : Key), V.int 1)] = (fwd r0 []).map kvI := rfl
  rw [e0]
  have gd : (upd (upd H pd (.dK [])) pd (.dK ((fwd r0 []).map kvI))) pd = some (.dK ((fwd r0 []).map kvI)) := upd_same
  have sd : Same H (upd (upd H pd (.dK [])) pd (.dK ((fwd r0 []).map kvI))) := fun b u e => by rw [upd_ne (ne_of_none e hpd), upd_ne (ne_of_none e hpd)]; exact e
  generalize upd (upd H pd (.dK [])) pd (.dK ((fwd r0 []).map kvI)) = H1 at gd sd ⊢
  refine ⟨_, rfl, 1, rfl, a, _, rfl, fun H' s' => ha H' (sd.trans s'), fun pr Hz sz hz => ?_⟩
  rw [cutHi1] at hz
  refine ⟨pr, rfl, ⟨_, hz Hz (fun _ _ e => e)⟩, for_tup (K := K) (a := pr) (xs := rest.map V.int) (fun i σ H' => ∃ (z1 z2 z3 z4 : Option V) (d : Addr), σ = [some (.ref a), some (.ref d), z1, z2, z3, z4] ∧ Same H H' ∧ H d = none ∧ H' d = some (.dK ((fwd r0 (rest.take i)).map kvI)) ∧ SqT K H' pr (rest.map V.int))
    ⟨none, none, none, none, pd, rfl, sd.trans sz, hpd, sz _ _ gd, hz Hz (fun _ _ e => e)⟩ (fun i σ H' _ ⟨_, _, _, _, _, _, _, _, _, h⟩ => h) ?_ ?_⟩
  · rintro i x σ H2 hi ⟨z1, z2, z3, z4, d, rfl, s2, nd, g2, hp2⟩
    rw [List.getElem?_map] at hi
    obtain ⟨n, hn, rfl⟩ : ∃ n, rest[i]? = some n ∧ V.int n = x := by
      cases e : rest[i]? with
      | none => rw [e] at hi; cases hi
      | some n => rw [e] at hi; exact ⟨n, rfl, by simpa using hi⟩
    obtain ⟨ps, hps⟩ : ∃ ps, ps = fwd r0 (rest.take i) := ⟨_, rfl⟩
    have psl : ps.length ≤ 3862 := by rw [hps]; exact fwd_len r0 (hl.take i)
    have psn : (keysP ps).Nodup := by rw [hps]; exact fwd_nodup r0 _
    rw [← hps] at g2
    have efw : fwd r0 (rest.take (i + 1)) = either n ps := by rw [take_snoc hn, fwd_snoc, hps]
    rw [efw]
    refine fun pb hpb => ?_
    have nb : H pb = none := same_none s2 hpb
    have sb := Same.new (o := .dK []) hpb
    have ndb : d ≠ pb := ne_of_none g2 hpb
    refine ⟨_, rfl, d, ps.map kvI, rfl, .inl ⟨sb _ _ g2, fun ob => ?_⟩⟩
    refine for_keysD (d := d) (o := ob) (kvs := ps.map kvI) (fun j σ H3 => ∃ (z3 z4 : Option V), σ = [some (.ref a), some (.ref d), some (.int n), some (.ref pb), z3, z4] ∧ Same H H3 ∧ H3 d = some (.frz ob (.dK (ps.map kvI))) ∧ H3 pb = some (.dK (((ps.take j).foldl (stepE n) []).map kvI)) ∧ SqT K H3 pr (rest.map V.int))
      ⟨_, _, rfl, same_upd (s2.trans sb) nd, upd_same, by rw [upd_ne (Ne.symm ndb), upd_same]; rfl, sqt_upd (sqt_same sb hp2) (sb _ _ g2)⟩ (fun j σ H3 ⟨_, _, _, _, h, _⟩ => h) ?_ ?_
    · rintro j ky x σ H3 hk ⟨z3, z4, rfl, s3, fz, gb, hp3⟩
      rw [List.getElem?_map] at hk
      obtain ⟨⟨c, v⟩, hc, he⟩ : ∃ p, ps[j]? = some p ∧ kvI p = (ky, x) := by
        cases e : ps[j]? with
        | none => rw [e] at hk; cases hk
        | some p => rw [e] at hk; exact ⟨p, rfl, by simpa using hk⟩
      unfold kvI at he
      simp only [Prod.mk.injEq] at he
      obtain ⟨rfl, rfl⟩ := he
      have hjl := (List.getElem?_eq_some_iff.mp hc).1
      have hft := len_fold n (ps.take j) []
      rw [List.length_nil, List.length_take] at hft
      refine ⟨_, rfl, _, rfl, _, _, rfl, rfl, _, rfl, _, rfl, _, _, rfl, rfl, (by show 2 ≤ sizeLine; decide), fun pt hpt => ?_⟩
      have st := Same.new (o := .tup [V.int (c + n), V.int (c - n)]) hpt
      refine ⟨pt, rfl, ⟨_, SqT.of upd_same⟩, for_tup (K := K) (a := pt) (xs := [.int (c + n), .int (c - n)]) (fun t σ H4 => ∃ (z4 : Option V), σ = [some (.ref a), some (.ref d), some (.int n), some (.ref pb), some (.int c), z4] ∧ Same H H4 ∧ H4 d = some (.frz ob (.dK (ps.map kvI))) ∧ H4 pt = some (.tup [.int (c + n), .int (c - n)]) ∧ H4 pb = some (.dK ((([c + n, c - n] : List Int).take t).foldl (stepB v) ((ps.take j).foldl (stepE n) []) |>.map kvI)) ∧ SqT K H4 pr (rest.map V.int))
        ⟨_, rfl, s3.trans st, st _ _ fz, upd_same, st _ _ gb, sqt_same st hp3⟩ (fun t σ H4 _ ⟨_, _, _, _, h, _⟩ => SqT.of h) ?_ ?_⟩
      · rintro t y σ H4 hj ⟨z4, rfl, s4, fz4, gt4, gb4, hp4⟩
        obtain ⟨k, rfl, hlast⟩ : ∃ k : Int, y = .int k ∧ ([c + n, c - n] : List Int)[t]? = some k := by
          match t, hj with
          | 0, hj => simp at hj; exact ⟨_, hj.symm, rfl⟩
          | 1, hj => simp at hj; exact ⟨_, hj.symm, rfl⟩
          | t + 2, hj => simp at hj
        have hj2 : t ≤ 1 := by have := (List.getElem?_eq_some_iff.mp hlast).1; simp at this; omega
        obtain ⟨Q0, hQ0⟩ : ∃ Q0, Q0 = (([c + n, c - n] : List Int).take t).foldl (stepB v) ((ps.take j).foldl (stepE n) []) := ⟨_, rfl⟩
        rw [← hQ0] at gb4
        have hlen : Q0.length ≤ 2 * ps.length + 1 := by
          rw [hQ0]
          match t, hj2 with
          | 0, _ => show ((ps.take j).foldl (stepE n) []).length ≤ _; omega
          | 1, _ =>
            have : (stepB v ((ps.take j).foldl (stepE n) []) (c + n)).length ≤ ((ps.take j).foldl (stepE n) []).length + 1 := put_len _ _ _
            show (stepB v ((ps.take j).foldl (stepE n) []) (c + n)).length ≤ _
            omega
        refine ⟨_, rfl, pb, rfl, .inl ⟨_, .inl gb4⟩, _, rfl, _, DGet.k (k := Sum.inl k) gb4, _, rfl, _, rfl, d, .int v, rfl, .inl ⟨_, Sum.inl c, .inr ⟨_, fz4⟩, rfl, (valV_at psn hc).symm⟩, look Q0 k, v, val_kv _ _, rfl, ?_⟩
        refine ⟨_, rfl, _, rfl, pb, _, rfl, DPut.k (k := Sum.inl k) gb4 (by rw [List.length_map, szl]; omega), ?_⟩
        have npd : pb ≠ d := fun z => by rw [z, fz4] at gb4; cases gb4
        have npt : pt ≠ pb := fun z => by rw [z, gb4] at gt4; cases gt4
        refine ⟨_, rfl, same_upd s4 nb, by rw [upd_ne (Ne.symm npd)]; exact fz4, by rw [upd_ne npt]; exact gt4, ?_, sqt_upd hp4 gb4⟩
        rw [upd_same, put_kv, take_snoc hlast, List.foldl_append, ← hQ0]
        rfl
      · rintro σ H4 ⟨z4, rfl, s4, fz4, gt4, gb4, hp4⟩
        refine ⟨_, _, rfl, s4, fz4, ?_, hp4⟩
        rw [gb4, take_snoc hc, List.foldl_append]
        show some (HO.dK ((stepB v (stepB v _ (c + n)) (c - n)).map kvI)) = _
        rw [stepB_E]
        rfl
    · rintro σ H3 ⟨z3, z4, rfl, s3, fz, gb, hp3⟩
      rw [List.length_map, List.take_length] at gb
      exact ⟨_, rfl, _, _, _, _, pb, rfl, s3, nb, gb, hp3⟩
  · rintro σ H2 ⟨z1, z2, z3, z4, d, rfl, s2, nd, g2, hp2⟩
    rw [List.length_map, List.take_length] at g2
    exact ⟨_, rfl, q d H2 s2 nd g2⟩
end
end Law

set_option Elab.async false
set_option linter.all false
set_option maxRecDepth 100000
set_option maxHeartbeats 1000000
namespace Law
open PySem L2
section
variable {P : Program} {w : World} {K : PySem.W.Frag} {mg : Str → Option Value} {base : Heap}
abbrev s_law_ahead : Stmt := top 16
theorem sc_law_ahead : FnScope ["row", "counts", "number", "ahead", "total", "after"] ["row"] (defScope s_law_ahead) := ⟨rfl, rfl, rfl, by decide +kernel, rfl, by decide +kernel, by decide +kernel⟩
theorem ok_ahead {f : Addr} {fd : FuncData} (F : Fun K "_law_ahead" "_law_ahead" s_law_ahead f fd) (B : Blt mg) : FnOk P w K mg base CX0 1 f fd ["row"] (spSB K) := by
  refine F.okW (k := 0) sc_law_ahead (fun vs H Q E h => ?_) (fun cdv A outer s H vs Q E hr h => ?_)
  · obtain ⟨a, r0, rest, rfl, _⟩ := h
    rfl
  obtain ⟨a, r0, rest, rfl, ha, hl, q⟩ := h
  refine ⟨_, (wss_cons (w_set (i := 1) sc_law_ahead.nd rfl (by first | exact Or.inl rfl | exact Or.inr rfl) (w_lst (w_cons (Wr.mk (pe_disp (pps_cons pe_int pe_int pps_nil) rfl rfl (by simp) (by decide))) w_nil)))
      (wss_cons (Wr.mk (ps_for PassesOwn.never rfl (pi_tup (pe_revT (pe_slice sl_tupS (pv 0) (po_some pe_int) po_none))) (pg_name (i := 2) sc_law_ahead.nd rfl (by first | exact Or.inl rfl | exact Or.inr rfl)) (pss_cons (ps_set (i := 3) sc_law_ahead.nd rfl (by first | exact Or.inl rfl | exact Or.inr rfl) pe_dnewK)
      (pss_cons (ps_for PassesOwn.never rfl (pi_keysD (pe_ix ix_list (pv 1) (pe_un un_neg pe_int) (fun _ _ => rfl))) (pg_name (i := 4) sc_law_ahead.nd rfl (by first | exact Or.inl rfl | exact Or.inr rfl)) (pss_one (ps_for PassesOwn.never rfl (pi_tup (pe_tup (pa_cons (pe_op op_add (pv 4) (pv 2)) (pa_cons (pe_op op_sub (pv 4) (pv 2)) pa_nil)))) (pg_name (i := 5) sc_law_ahead.nd rfl (by first | exact Or.inl rfl | exact Or.inr rfl)) (pss_one (ps_dput (hu_of hr) (pv 3) (pv 5) (pe_op op_add (pe_dget2 (hu_of hr) (pv 3) (pv 5) pe_int ⟨rfl, rfl, rfl, rfl⟩) (pe_dget (hu_of hr) (pe_ix ix_list (pv 1) (pe_un un_neg pe_int) (fun _ _ => rfl)) (pv 4) (fun _ _ => rfl))) rfl)))))
      (pss_one (ps_expr (pe_bm PySem.F.plainAttrs_list PySem.F.slot_list_append PySem.F.type_list_append mt_append (pv 1) (pa_cons (pv 3) pa_nil))))))))
      (wss_one (Wr.mk (ps_ret (pe_rev (pv 1))))))), ?_⟩
  have szl := sizeLine_eq
  have hl1 := hl.1
  refine fun pd hpd => ⟨upd_same, [(Sum.inl 0, .int 1)], rfl, by decide, (by show 1 ≤ sizeLine; decide), fun pl hpl => ?_⟩
  have e0 : mergeK [] [((Sum.inl 0 : Key), V.int 1)] = (dic []).map kvI := rfl
  rw [e0] at hpl ⊢
  have gd : (upd (upd H pd (.dK [])) pd (.dK ((dic []).map kvI))) pd = some (.dK ((dic []).map kvI)) := upd_same
  have sd : Same H (upd (upd H pd (.dK [])) pd (.dK ((dic []).map kvI))) := fun b u e => by rw [upd_ne (ne_of_none e hpd), upd_ne (ne_of_none e hpd)]; exact e
  generalize upd (upd H pd (.dK [])) pd (.dK ((dic []).map kvI)) = H1 at gd sd hpl ⊢
  have sl1 := Same.new (o := .lst [V.ref pd]) hpl
  have npl : H pl = none := same_none sd hpl
  refine ⟨_, rfl, 1, rfl, a, _, rfl, fun H' s' => ha H' (sd.trans (sl1.trans s')), fun pz Hz sz hz => ?_⟩
  rw [cutHi1] at hz
  refine ⟨pz, _, rfl, hz Hz (fun _ _ e => e), fun pr hpr => ?_⟩
  have s3 := Same.new (o := .tup (rest.map V.int).reverse) hpr
  have sz3 := sz.trans s3
  refine ⟨pr, rfl, ⟨_, SqT.of upd_same⟩, for_tup (K := K) (a := pr) (xs := (rest.map V.int).reverse) (fun i σ H' => ∃ (z1 z2 z3 z4 : Option V) (ys0 : List V) (d0 : Addr), σ = [some (.ref a), some (.ref pl), z1, z2, z3, z4] ∧ Same H H' ∧ H' pl = some (.lst (ys0 ++ [V.ref d0])) ∧ H' pr = some (.tup (rest.map V.int).reverse) ∧ Paired (DcF H H') (ys0 ++ [V.ref d0]).reverse (sfx (rest.drop (rest.length - i))) ∧ H d0 = none ∧ H' d0 = some (.dK ((dic (rest.drop (rest.length - i))).map kvI)))
    ⟨none, none, none, none, [], pd, rfl, sd.trans (sl1.trans sz3), sz3 _ _ upd_same, upd_same, ?_, hpd, ?_⟩ (fun i σ H' _ ⟨_, _, _, _, _, _, _, _, _, h, _⟩ => SqT.of h) ?_ ?_⟩
  · rw [Nat.sub_zero, List.drop_length]
    exact .cons ⟨pd, rfl, .inl (sz3 _ _ (sl1 _ _ gd)), hpd⟩ .nil
  · rw [Nat.sub_zero, List.drop_length]
    exact sz3 _ _ (sl1 _ _ gd)
  · rintro i x σ H2 hi ⟨z1, z2, z3, z4, ys0, d0, rfl, sH, gl, gr, py, n0, g0⟩
    have hil : i < rest.length := by have := (List.getElem?_eq_some_iff.mp hi).1; simpa using this
    obtain ⟨n, hn⟩ : ∃ n, rest[rest.length - (i + 1)]? = some n := ⟨_, List.getElem?_eq_getElem (by omega)⟩
    have ex : x = .int n := by
      rw [List.getElem?_reverse (by rw [List.length_map]; exact hil), List.length_map, List.getElem?_map, show rest.length - 1 - i = rest.length - (i + 1) by omega, hn] at hi
      simpa using hi.symm
    subst ex
    have ed : rest.drop (rest.length - (i + 1)) = n :: rest.drop (rest.length - i) := by
      have hlt : rest.length - (i + 1) < rest.length := by omega
      rw [List.drop_eq_getElem_cons hlt, show rest.length - (i + 1) + 1 = rest.length - i by omega]
      congr 1
      rw [List.getElem?_eq_getElem hlt] at hn
      exact Option.some.inj hn
    have yl : (ys0 ++ [V.ref d0]).length ≤ 40 := by
      have := py.length
      rw [List.length_reverse, sfx_len, List.length_drop] at this
      omega
    obtain ⟨ps, hps⟩ : ∃ ps, ps = dic (rest.drop (rest.length - i)) := ⟨_, rfl⟩
    have psl : ps.length ≤ 3862 := by rw [hps]; exact dic_lenS (hl.drop _)
    have psn : (keysP ps).Nodup := by rw [hps]; exact dic_nodup _
    rw [← hps] at g0
    have efw : dic (rest.drop (rest.length - (i + 1))) = either n ps := by rw [ed, hps]; rfl
    rw [efw]
    refine fun pb hpb => ?_
    have nb : H pb = none := same_none sH hpb
    have sb := Same.new (o := .dK []) hpb
    have ndb : d0 ≠ pb := ne_of_none g0 hpb
    have nld : pl ≠ d0 := fun z => by rw [z, g0] at gl; cases gl
    refine ⟨_, rfl, _, rfl, pl, _, -1, .ref d0, rfl, rfl, SqL.of (sb _ _ gl), last_atV _ _, d0, ps.map kvI, rfl, .inl ⟨sb _ _ g0, fun ob => ?_⟩⟩
    refine for_keysD (d := d0) (o := ob) (kvs := ps.map kvI) (fun j σ H3 => ∃ (z3 z4 : Option V), σ = [some (.ref a), some (.ref pl), some (.int n), some (.ref pb), z3, z4] ∧ Same H H3 ∧ (∀ b u, b ≠ d0 → H2 b = some u → H3 b = some u) ∧ H3 d0 = some (.frz ob (.dK (ps.map kvI))) ∧ H3 pb = some (.dK (((ps.take j).foldl (stepE n) []).map kvI)))
      ⟨_, _, rfl, same_upd (sH.trans sb) n0, fun b u nb' e => by rw [upd_ne nb']; exact sb _ _ e, upd_same, by rw [upd_ne (Ne.symm ndb), upd_same]; rfl⟩ (fun j σ H3 ⟨_, _, _, _, _, h, _⟩ => h) ?_ ?_
    · rintro j ky x σ H3 hk ⟨z3, z4, rfl, s3, k3, fz, gb⟩
      rw [List.getElem?_map] at hk
      obtain ⟨⟨c, v⟩, hc, he⟩ : ∃ p, ps[j]? = some p ∧ kvI p = (ky, x) := by
        cases e : ps[j]? with
        | none => rw [e] at hk; cases hk
        | some p => rw [e] at hk; exact ⟨p, rfl, by simpa using hk⟩
      unfold kvI at he
      simp only [Prod.mk.injEq] at he
      obtain ⟨rfl, rfl⟩ := he
      have hjl := (List.getElem?_eq_some_iff.mp hc).1
      have hft := len_fold n (ps.take j) []
      rw [List.length_nil, List.length_take] at hft
      refine ⟨_, rfl, _, rfl, _, _, rfl, rfl, _, rfl, _, rfl, _, _, rfl, rfl, (by show 2 ≤ sizeLine; decide), fun pt hpt => ?_⟩
      have st := Same.new (o := .tup [V.int (c + n), V.int (c - n)]) hpt
      refine ⟨pt, rfl, ⟨_, SqT.of upd_same⟩, for_tup (K := K) (a := pt) (xs := [.int (c + n), .int (c - n)]) (fun t σ H4 => ∃ (z4 : Option V), σ = [some (.ref a), some (.ref pl), some (.int n), some (.ref pb), some (.int c), z4] ∧ Same H H4 ∧ (∀ b u, b ≠ d0 → H2 b = some u → H4 b = some u) ∧ H4 d0 = some (.frz ob (.dK (ps.map kvI))) ∧ H4 pt = some (.tup [.int (c + n), .int (c - n)]) ∧ H4 pb = some (.dK ((([c + n, c - n] : List Int).take t).foldl (stepB v) ((ps.take j).foldl (stepE n) []) |>.map kvI)))
        ⟨_, rfl, s3.trans st, fun b u nb' e => st _ _ (k3 b u nb' e), st _ _ fz, upd_same, st _ _ gb⟩ (fun t σ H4 _ ⟨_, _, _, _, _, h, _⟩ => SqT.of h) ?_ ?_⟩
      · rintro t y σ H4 hj ⟨z4, rfl, s4, k4, fz4, gt4, gb4⟩
        obtain ⟨k, rfl, hlast⟩ : ∃ k : Int, y = .int k ∧ ([c + n, c - n] : List Int)[t]? = some k := by
          match t, hj with
          | 0, hj => simp at hj; exact ⟨_, hj.symm, rfl⟩
          | 1, hj => simp at hj; exact ⟨_, hj.symm, rfl⟩
          | t + 2, hj => simp at hj
        have hj2 : t ≤ 1 := by have := (List.getElem?_eq_some_iff.mp hlast).1; simp at this; omega
        obtain ⟨Q0, hQ0⟩ : ∃ Q0, Q0 = (([c + n, c - n] : List Int).take t).foldl (stepB v) ((ps.take j).foldl (stepE n) []) := ⟨_, rfl⟩
        rw [← hQ0] at gb4
        have hlen : Q0.length ≤ 2 * ps.length + 1 := by
          rw [hQ0]
          match t, hj2 with
          | 0, _ => show ((ps.take j).foldl (stepE n) []).length ≤ _; omega
          | 1, _ =>
            have : (stepB v ((ps.take j).foldl (stepE n) []) (c + n)).length ≤ ((ps.take j).foldl (stepE n) []).length + 1 := put_len _ _ _
            show (stepB v ((ps.take j).foldl (stepE n) []) (c + n)).length ≤ _
            omega
        refine ⟨_, rfl, pb, rfl, .inl ⟨_, .inl gb4⟩, _, rfl, _, DGet.k (k := Sum.inl k) gb4, _, rfl, _, rfl, pl, _, -1, .ref d0, rfl, rfl, SqL.of (k4 pl _ nld gl), last_atV _ _, _, rfl, d0, .int v, rfl, .inl ⟨_, Sum.inl c, .inr ⟨_, fz4⟩, rfl, (valV_at psn hc).symm⟩, look Q0 k, v, val_kv _ _, rfl, ?_⟩
        refine ⟨_, rfl, _, rfl, pb, _, rfl, DPut.k (k := Sum.inl k) gb4 (by rw [List.length_map, szl]; omega), ?_⟩
        have npd : pb ≠ d0 := fun z => by rw [z, fz4] at gb4; cases gb4
        have npt : pt ≠ pb := fun z => by rw [z, gb4] at gt4; cases gt4
        refine ⟨_, rfl, same_upd s4 nb, fun b u nb' e => by rw [upd_ne (ne_of_none e hpb)]; exact k4 b u nb' e, by rw [upd_ne (Ne.symm npd)]; exact fz4, by rw [upd_ne npt]; exact gt4, ?_⟩
        rw [upd_same, put_kv, take_snoc hlast, List.foldl_append, ← hQ0]
        rfl
      · rintro σ H4 ⟨z4, rfl, s4, k4, fz4, gt4, gb4⟩
        refine ⟨_, _, rfl, s4, k4, fz4, ?_⟩
        rw [gb4, take_snoc hc, List.foldl_append]
        show some (HO.dK ((stepB v (stepB v _ (c + n)) (c - n)).map kvI)) = _
        rw [stepB_E]
        rfl
    · rintro σ H3 ⟨z3, z4, rfl, s3, k3, fz, gb⟩
      rw [List.length_map, List.take_length] at gb
      have gl3 := k3 pl _ nld gl
      have nrd : pr ≠ d0 := fun z => by rw [z, g0] at gr; cases gr
      have gr3 := k3 pr _ nrd gr
      have nlr : pr ≠ pl := fun z => by rw [z, gl3] at gr3; cases gr3
      have nln : pb ≠ pl := fun z => by rw [z, gl3] at gb; cases gb
      refine ⟨_, rfl, .inl ⟨rfl, _, SqL.of gl3⟩, _, rfl, pl, _, _, rfl, rfl, gl3, by rw [szl]; omega, ?_⟩
      refine ⟨_, _, _, _, ys0 ++ [V.ref d0], pb, rfl, same_upd s3 npl, upd_same, by rw [upd_ne nlr]; exact gr3, ?_, nb, by rw [upd_ne nln]; exact gb⟩
      rw [List.reverse_append, ed]
      show Paired _ (V.ref pb :: (ys0 ++ [V.ref d0]).reverse) ((n :: rest.drop (rest.length - i)) :: sfx (rest.drop (rest.length - i)))
      have kd : ∀ v ns, DcF H H3 v ns → DcF H (upd H3 pl (.lst (ys0 ++ [V.ref d0] ++ [V.ref pb]))) v ns := by
        rintro v ns ⟨e, rfl, h1, h2⟩
        refine ⟨e, rfl, rd_keep (fun o ho => ?_) h1, h2⟩
        have : e ≠ pl := fun z => by
          rcases h1 with h1 | ⟨_, h1⟩ <;> (rw [z, gl3] at h1; cases h1)
        rw [upd_ne this]; exact ho
      refine .cons (kd _ _ ⟨pb, rfl, .inl (by rw [gb, ← ed, efw]; rfl), nb⟩) ?_
      exact L2.Paired.mapP py fun v x h => kd v x (dc_move (.inl g0) (.inr ⟨_, fz⟩) k3 v x h)
  · rintro σ H2 ⟨z1, z2, z3, z4, ys0, d0, rfl, sH, gl, gr, py, n0, g0⟩
    rw [List.length_reverse, List.length_map, Nat.sub_self, List.drop_zero] at py
    refine ⟨_, rfl, pl, _, rfl, SqL.of gl, fun pp hpp => ?_⟩
    refine q pp _ _ (sH.trans (Same.new hpp)) (same_none sH hpp) upd_same (L2.Paired.mapP py ?_)
    rintro v x ⟨e, rfl, h1, _⟩
    exact ⟨e, rfl, rd_keep (fun o ho => Same.new hpp _ _ ho) h1⟩
end
end Law

set_option Elab.async false
set_option linter.all false
set_option maxRecDepth 100000
set_option maxHeartbeats 1000000
namespace Law
open PySem L2
section
variable {P : Program} {w : World} {K : PySem.W.Frag} {mg : Str → Option Value} {base : Heap}
def spPlace (K : PySem.W.Frag) : Sp := fun vs H Q _ => ∃ (a pc : Addr) (v : V) (r0 : Int) (rest : List Int) (ss : List Str) (ys : List V), vs = [.ref a, v, .ref pc] ∧ (∀ H' : Hp, Same H H' → SqT K H' a ((r0 :: rest).map V.int)) ∧ Put H v ss ∧ ss.length = rest.length ∧ RowS rest ∧ H pc = some (.lst ys) ∧ Paired (Dc H) ys (sfx rest) ∧
  ∀ H' : Hp, Same H H' → Q (.int (idx rest ss)) H'
abbrev s_law_place : Stmt := top 17
theorem sc_law_place : FnScope ["row", "signs", "counts", "left", "found", "k"] ["row", "signs", "counts"] (defScope s_law_place) := ⟨rfl, rfl, rfl, by decide +kernel, rfl, by decide +kernel, by decide +kernel⟩
theorem ok_place {f : Addr} {fd : FuncData} (F : Fun K "_law_place" "_law_place" s_law_place f fd) (B : Blt mg) (Glw : Def P w K mg base CX0 1 "_law_worth" (spLW K)) : FnOk P w K mg base CX0 2 f fd ["row", "signs", "counts"] (spPlace K) := by
  refine F.ok (k := 1) sc_law_place (fun vs H Q E h => ?_) (fun cdv A outer s H vs Q E hr h => ?_)
  · obtain ⟨a, pc, v, r0, rest, ss, ys, rfl, _⟩ := h
    rfl
  obtain ⟨a, pc, v, r0, rest, ss, ys, rfl, ha, hput, hl, h9, gc, py, q⟩ := h
  obtain ⟨qs, rfl, gs⟩ := id hput
  refine ⟨_, (pss_cons (ps_set (i := 3) sc_law_place.nd rfl (by first | exact Or.inl rfl | exact Or.inr rfl) (pe_op op_sub (pe_def Glw (hr.mono (by omega)) (pa_cons (pv 0) (pa_cons (pv 1) pa_nil))) (pe_ix ix_tup (pv 0) pe_int (fun _ _ => rfl))))
      (pss_cons (ps_set (i := 4) sc_law_place.nd rfl (by first | exact Or.inl rfl | exact Or.inr rfl) pe_int)
      (pss_cons (ps_for PassesOwn.never rfl (pi_range1 rfl B.range (pa_cons (pe_callB call_len_seq rfl B.len bt_len (pa_cons (pv 1) pa_nil)) pa_nil)) (pg_name (i := 5) sc_law_place.nd rfl (by first | exact Or.inl rfl | exact Or.inr rfl)) (pss_one (ps_if (pt_cmpR op_eq (pe_ix ix_tup (pv 1) (pv 5) (fun _ _ => rfl)) pe_str (nomark _)) (pss_cons (ps_set (i := 4) sc_law_place.nd rfl (by first | exact Or.inl rfl | exact Or.inr rfl) (pe_op op_add (pv 4) (pe_dget2 (hu_of hr) (pe_ix ix_list (pv 2) (pe_op op_add (pv 5) pe_int) (fun _ _ => rfl)) (pe_op op_sub (pv 3) (pe_ix ix_tup (pv 0) (pe_op op_add (pv 5) pe_int) (fun _ _ => rfl))) pe_int ⟨rfl, rfl, rfl, rfl⟩)))
      (pss_one (ps_set (i := 3) sc_law_place.nd rfl (by first | exact Or.inl rfl | exact Or.inr rfl) (pe_op op_add (pv 3) (pe_ix ix_tup (pv 0) (pe_op op_add (pv 5) pe_int) (fun _ _ => rfl)))))) (pss_one (ps_set (i := 3) sc_law_place.nd rfl (by first | exact Or.inl rfl | exact Or.inr rfl) (pe_op op_sub (pv 3) (pe_ix ix_tup (pv 0) (pe_op op_add (pv 5) pe_int) (fun _ _ => rfl))))))))
      (pss_one (ps_ret (pv 4)))))), ?_⟩
  have szl := sizeLine_eq
  have h91 := h9.1
  refine ⟨_, rfl, _, rfl, a, _, r0, rest, ss, rfl, ha, hput, hl, h9, fun H1 s1 => ?_⟩
  refine ⟨_, rfl, a, _, 0, .int r0, rfl, rfl, ha H1 s1, (by exact atI_nat (j := 0) rfl), _, _, rfl, rfl, ?_⟩
  refine ⟨_, rfl, qs, _, rfl, .inr (SqT.of (s1 _ _ gs)), _, rfl, by omega, by rw [List.length_map]; omega, for_range (fun k σ H' => ∃ (fo : Int) (z : Option V), σ = [some (.ref a), some (.ref qs), some (.ref pc), some (.int (sgS (rest.drop k) (ss.drop k))), some (.int fo), z] ∧ Same H H' ∧ fo + idx (rest.drop k) (ss.drop k) = idx rest ss)
    ⟨0, none, by show [some (V.ref a), some (V.ref qs), some (V.ref pc), some (V.int (r0 + sgS rest ss - r0)), some (V.int 0), none] = _; rw [List.drop_zero, List.drop_zero, show r0 + sgS rest ss - r0 = sgS rest ss by omega], s1, by rw [List.drop_zero, List.drop_zero]; omega⟩ ?_ ?_⟩
  · rintro k σ H3 hk ⟨fo, z, rfl, s3, hfo⟩
    rw [List.length_map] at hk
    have hk' : k < ss.length := by omega
    have hkr : k < rest.length := by omega
    obtain ⟨sn, hsn⟩ : ∃ sn, ss[k]? = some sn := ⟨ss[k], List.getElem?_eq_getElem hk'⟩
    obtain ⟨n, hn⟩ : ∃ n, rest[k]? = some n := ⟨rest[k], List.getElem?_eq_getElem hkr⟩
    have hat : atI (ss.map V.str) (0 + (k : Int)) = some (.str sn) := by rw [Int.zero_add]; exact atI_nat (by rw [List.getElem?_map, hsn]; rfl)
    have har : atI ((r0 :: rest).map V.int) (0 + (k : Int) + 1) = some (.int n) := by
      rw [show 0 + (k : Int) + 1 = ((k + 1 : Nat) : Int) by omega]
      exact atI_nat (by rw [List.getElem?_map]; show (rest[k]?).map V.int = _; rw [hn]; rfl)
    have er : rest.drop k = n :: rest.drop (k + 1) := by
      rw [List.drop_eq_getElem_cons hkr]
      congr 1
      rw [List.getElem?_eq_getElem hkr] at hn
      exact Option.some.inj hn
    have es : ss.drop k = sn :: ss.drop (k + 1) := by
      rw [List.drop_eq_getElem_cons hk']
      congr 1
      rw [List.getElem?_eq_getElem hk'] at hsn
      exact Option.some.inj hsn
    have e1 : sgS (rest.drop k) (ss.drop k) = (if sn = "-" then -n else n) + sgS (rest.drop (k + 1)) (ss.drop (k + 1)) := by rw [er, es]; rfl
    have e2 : idx (rest.drop k) (ss.drop k) = if sn = "-" then look (dic (rest.drop (k + 1))) (sgS (rest.drop k) (ss.drop k) - n) + idx (rest.drop (k + 1)) (ss.drop (k + 1)) else idx (rest.drop (k + 1)) (ss.drop (k + 1)) := by rw [er, es]; rfl
    refine ⟨_, rfl, _, rfl, qs, _, _, _, rfl, rfl, SqT.of (s3 _ _ gs), hat, rfl, _, rfl, ?_⟩
    rw [dec_str]
    by_cases hm : sn = "-"
    · rw [decide_eq_true hm]
      rw [if_pos hm] at e1 e2
      obtain ⟨y, hy, d, rfl, rd⟩ := pr_get2 py (sfx_get rest (k + 1) (by omega))
      have rd3 := rd_same s3 rd
      refine iteT ⟨_, rfl, _, rfl, _, rfl, _, _, rfl, rfl, pc, ys, _, .ref d, rfl, rfl, SqL.of (s3 _ _ gc), (by rw [show 0 + (k : Int) + 1 = ((k + 1 : Nat) : Int) by omega]; exact atI_nat hy), d, rfl, .inl ⟨_, rd3⟩, _, rfl, _, rfl, _, rfl, _, _, rfl, rfl, a, _, _, _, rfl, rfl, ha H3 s3, har, _, _, rfl, rfl, _, .inl ⟨_, Sum.inl (sgS (rest.drop k) (ss.drop k) - n), rd3, rfl, rfl⟩, ?_⟩
      rw [val_kv]
      refine ⟨_, _, rfl, rfl, _, rfl, _, rfl, _, rfl, _, _, rfl, rfl, a, _, _, _, rfl, rfl, ha H3 s3, har, _, _, rfl, rfl, ?_⟩
      refine ⟨fo + look (dic (rest.drop (k + 1))) (sgS (rest.drop k) (ss.drop k) - n), some (.int (0 + (k : Int))), ?_, s3, ?_⟩
      · rw [show sgS (rest.drop (k + 1)) (ss.drop (k + 1)) = sgS (rest.drop k) (ss.drop k) + n by omega]; rfl
      · rw [← hfo, e2]; omega
    · rw [decide_eq_false hm]
      rw [if_neg hm] at e1 e2
      refine iteF ⟨_, rfl, _, rfl, _, rfl, _, _, rfl, rfl, a, _, _, _, rfl, rfl, ha H3 s3, har, _, _, rfl, rfl, ?_⟩
      refine ⟨fo, some (.int (0 + (k : Int))), ?_, s3, ?_⟩
      · rw [show sgS (rest.drop (k + 1)) (ss.drop (k + 1)) = sgS (rest.drop k) (ss.drop k) - n by omega]; rfl
      · rw [← hfo, e2]
  · rintro σ H3 ⟨fo, z, rfl, s3, hfo⟩
    rw [List.length_map, List.drop_of_length_le (by omega), List.drop_of_length_le (by omega)] at hfo
    have : fo = idx rest ss := by rw [← hfo]; show fo = fo + 0; omega
    exact ⟨_, rfl, by rw [this]; exact q H3 s3⟩
def spKeys : Sp := fun vs H Q _ => ∃ (v : V) (ss : List Str), vs = [v] ∧ Put H v ss ∧ ss.length ≤ 39 ∧
  ∀ (p : Addr) (H' : Hp), Same H H' → H' p = some (.lst ((keyOf ss).map V.int)) → Q (.ref p) H'
abbrev s_law_keys : Stmt := top 19
theorem sc_law_keys : FnScope ["signs"] ["signs"] (defScope s_law_keys) := ⟨rfl, rfl, rfl, by decide +kernel, rfl, by decide +kernel, by decide +kernel⟩
theorem ok_keys {f : Addr} {fd : FuncData} (F : Fun K "_law_keys" "_law_keys" s_law_keys f fd) (B : Blt mg) : FnOk P w K mg base CX0 1 f fd ["signs"] spKeys := by
  refine F.ok (k := 0) sc_law_keys (fun vs H Q E h => ?_) (fun cdv A outer s H vs Q E hr h => ?_)
  · obtain ⟨v, ss, rfl, _⟩ := h
    rfl
  obtain ⟨v, ss, rfl, ⟨qs, rfl, gs⟩, hl, q⟩ := h
  refine ⟨_, (pss_one (ps_ret (pe_comp (N := ["sign"]) rfl (cs_of [none] rfl (by decide +kernel) (by decide +kernel) rfl rfl) rfl (pi_tup (pv 0)) (fun _ _ _ _ => (pg_name (i := 0) (show (["sign"] : List Str).Nodup by decide +kernel) rfl (by first | exact Or.inl rfl | exact Or.inr rfl))) (fun _ _ _ _ => ptl_nil) (fun _ _ _ _ => (pe_callTy call_int1 rfl B.int bt_int (pa_cons (pe_cmpR op_eq (pv 0) pe_str (nomark _)) pa_nil)))))), ?_⟩
  have szl := sizeLine_eq
  refine ⟨_, rfl, qs, rfl, ⟨_, SqT.of gs⟩, fun D hD C s2 fp => ?_⟩
  refine comp_tup (K := K) (a := qs) (xs := ss.map V.str) (tt := fun _ H Q => Q true H) (fun j ws σ H4 => ∃ o : Option V, σ = [o] ∧ Same H H4 ∧ ws = (keyOf (ss.take j)).map V.int) (fun j ws σ H4 ⟨_, _, g, _⟩ => SqT.of (g _ _ gs)) ⟨none, rfl, Same.new hD, rfl⟩ ?_ ?_
  · rintro j y ws σ H4 hj hwl ⟨o, rfl, s4, rfl⟩ g4
    rw [List.getElem?_map] at hj
    obtain ⟨sn, hsn, rfl⟩ : ∃ sn, ss[j]? = some sn ∧ V.str sn = y := by
      cases e : ss[j]? with
      | none => rw [e] at hj; cases hj
      | some n => rw [e] at hj; exact ⟨n, rfl, by simpa using hj⟩
    have hjl : j < ss.length := (List.getElem?_eq_some_iff.mp hsn).1
    refine ⟨_, rfl, rfl, .inr ⟨_, rfl, _, g4, by rw [szl]; omega, _, by rw [List.length_append]; show _ + 1 ≤ j + 1; omega, ⟨_, rfl, same_upd s4 hD, ?_⟩, upd_same⟩⟩
    rw [take_snoc hsn, dec_str]
    unfold keyOf
    rw [List.map_append, List.map_append]
    congr 1
    show [V.int (if decide (sn = "-") = true then 1 else 0)] = [V.int (if sn = "-" then 1 else 0)]
    by_cases h : sn = "-"
    · rw [decide_eq_true h, if_pos rfl, if_pos h]
    · rw [decide_eq_false h, if_neg (by decide), if_neg h]
  · rintro ws σ H4 ⟨o, rfl, s4, rfl⟩ g4
    rw [List.length_map, List.take_length] at g4
    exact q D H4 s4 g4
end
end Law

set_option Elab.async false
set_option linter.all false
set_option maxRecDepth 100000
set_option maxHeartbeats 1000000
namespace Law
open PySem L2
section
variable {P : Program} {w : World} {K : PySem.W.Frag} {mg : Str → Option Value} {base : Heap}
theorem sql_same {K : PySem.W.Frag} {H H' : Hp} {a : Addr} {xs : List V} (s : Same H H') (h : SqL K H a xs) : SqL K H' a xs := by
  rcases h with (h | ⟨o, h⟩) | h
  · exact .inl (.inl (s _ _ h))
  · exact .inl (.inr ⟨o, s _ _ h⟩)
  · exact .inr h
def spRow (K : PySem.W.Frag) : Sp := fun vs H Q _ => ∃ (a : Addr) (ns : List Int), vs = [.ref a] ∧ SqL K H a (ns.map V.int) ∧ ns.length ≤ 63 ∧
  ∀ (p : Addr) (row : List Int) (H' : Hp), Same H H' → H' p = some (.tup (row.map V.int)) → RowS row → 1 ≤ row.length → Q (.ref p) H'
abbrev s_law_row : Stmt := top 20
theorem sc_law_row : FnScope ["script", "most", "many", "pair"] ["script"] (defScope s_law_row) := ⟨rfl, rfl, rfl, by decide +kernel, rfl, by decide +kernel, by decide +kernel⟩
theorem ok_row {f : Addr} {fd : FuncData} (F : Fun K "_law_row" "_law_row" s_law_row f fd) (B : Blt mg) (Gdraw : Def P w K mg base CX0 1 "_law_draw" (spDrawS K)) : FnOk P w K mg base CX0 2 f fd ["script"] (spRow K) := by
  refine F.ok (k := 1) sc_law_row (fun vs H Q E h => ?_) (fun cdv A outer s H vs Q E hr h => ?_)
  · obtain ⟨a, ns, rfl, _⟩ := h
    rfl
  obtain ⟨a, ns, rfl, hS, hl, q⟩ := h
  refine ⟨_, (pss_cons (ps_set (i := 1) sc_law_row.nd rfl (by first | exact Or.inl rfl | exact Or.inr rfl) (pe_ix ix_tup (pe_tup (pa_cons pe_int (pa_cons pe_int (pa_cons pe_int (pa_cons pe_int pa_nil))))) (pe_op op_mod (pe_def Gdraw (hr.mono (by omega)) (pa_cons (pv 0) (pa_cons pe_int pa_nil))) pe_int) (fun _ _ => rfl)))
      (pss_cons (ps_set (i := 2) sc_law_row.nd rfl (by first | exact Or.inl rfl | exact Or.inr rfl) (pe_op op_add pe_int (pe_op op_mod (pe_def Gdraw (hr.mono (by omega)) (pa_cons (pv 0) (pa_cons pe_int pa_nil))) (pe_ix ix_list (pe_lst (pa_cons pe_int (pa_cons pe_int pa_nil))) (pe_callTy call_int1 rfl B.int bt_int (pa_cons (pe_cmpR op_eq (pv 1) pe_int (nomark _)) pa_nil)) (fun _ _ => rfl)))))
      (pss_cons (ps_if (pt_cmpR op_ne (pe_op op_mod (pe_def Gdraw (hr.mono (by omega)) (pa_cons (pv 0) (pa_cons pe_int pa_nil))) pe_int) pe_int (nomark _)) (pss_one (ps_ret (pe_callTy call_tuple_of rfl B.tuple bt_tuple (pa_cons (pe_comp (N := ["k", "most", "script"]) rfl (cs_of [none, some 1, some 0] rfl (by decide +kernel) (by decide +kernel) rfl rfl) rfl (pi_range1 rfl B.range (pa_cons (pv 2) pa_nil)) (fun _ _ _ _ => (pg_name (i := 0) (show (["k", "most", "script"] : List Str).Nodup by decide +kernel) rfl (by first | exact Or.inl rfl | exact Or.inr rfl))) (fun _ _ _ _ => ptl_nil) (fun _ _ _ _ => (pe_op op_add pe_int (pe_op op_mod (pe_def Gdraw (hr.mono (by omega)) (pa_cons (pv 2) (pa_cons (pe_op op_add pe_int (pv 0)) pa_nil))) (pv 1))))) pa_nil)))) pss_nil)
      (pss_cons (ps_set (i := 3) sc_law_row.nd rfl (by first | exact Or.inl rfl | exact Or.inr rfl) (pe_tup (pa_cons (pe_op op_add pe_int (pe_op op_mod (pe_op op_fdiv (pe_def Gdraw (hr.mono (by omega)) (pa_cons (pv 0) (pa_cons pe_int pa_nil))) pe_int) pe_int)) (pa_cons (pe_op op_sub pe_int (pe_op op_mod (pe_def Gdraw (hr.mono (by omega)) (pa_cons (pv 0) (pa_cons pe_int pa_nil))) pe_int)) pa_nil))))
      (pss_one (ps_ret (pe_callTy call_tuple_of rfl B.tuple bt_tuple (pa_cons (pe_comp (N := ["k", "pair", "script"]) rfl (cs_of [none, some 3, some 0] rfl (by decide +kernel) (by decide +kernel) rfl rfl) rfl (pi_range1 rfl B.range (pa_cons (pe_op op_add pe_int (pe_op op_mod (pe_def Gdraw (hr.mono (by omega)) (pa_cons (pv 0) (pa_cons pe_int pa_nil))) pe_int)) pa_nil)) (fun _ _ _ _ => (pg_name (i := 0) (show (["k", "pair", "script"] : List Str).Nodup by decide +kernel) rfl (by first | exact Or.inl rfl | exact Or.inr rfl))) (fun _ _ _ _ => ptl_nil) (fun _ _ _ _ => (pe_ix ix_tup (pv 1) (pe_op op_mod (pe_def Gdraw (hr.mono (by omega)) (pa_cons (pv 2) (pa_cons (pe_op op_add pe_int (pv 0)) pa_nil))) pe_int) (fun _ _ => rfl)))) pa_nil)))))))), ?_⟩
  have szl := sizeLine_eq
  have keepS : ∀ H', Same H H' → SqL K H' a (ns.map V.int) := fun H' s' => sql_same s' hS
  -- most
  refine ⟨(by show 4 ≤ sizeLine; decide), fun pM hpM => ?_⟩
  have sM := Same.new (o := .tup ([1, 2, 9, 99].map V.int)) hpM
  have gM : (upd H pM (.tup ([1, 2, 9, 99].map V.int))) pM = some (.tup ([1, 2, 9, 99].map V.int)) := upd_same
  refine ⟨_, rfl, a, ns, 5, rfl, keepS _ sM, hl, by decide, by decide, fun r2 H2 r20 _ s2 => ⟨_, _, rfl, rfl, (by show (0 : Int) < 4; decide), ?_⟩⟩
  obtain ⟨v, hv, hvm⟩ := atI_mem (xs := [1, 2, 9, 99].map V.int) (r := r2 % 4) (Int.emod_nonneg _ (by decide)) (Int.emod_lt_of_pos _ (by decide))
  obtain ⟨mo, hmo, rfl⟩ := List.mem_map.mp hvm
  have hmo1 : 1 ≤ mo ∧ mo ≤ 99 := by simp only [List.mem_cons, List.not_mem_nil, or_false] at hmo; omega
  refine ⟨pM, _, _, _, rfl, rfl, SqT.of (s2 _ _ gM), hv, ?_⟩
  have sH2 := sM.trans s2
  clear hv hvm hmo gM sM s2
  -- many
  refine ⟨_, rfl, a, ns, 4, rfl, keepS _ sH2, hl, by decide, by decide, fun r3 H3 r30 _ s3 => ?_⟩
  refine ⟨(by show 2 ≤ sizeLine; decide), fun pL hpL => ?_⟩
  have sL := Same.new (o := .lst [V.int 29, V.int 10]) hpL
  obtain ⟨md, hmd, hmd1⟩ : ∃ md : Int, atI [V.int 29, V.int 10] (if decide (V.int mo = V.int 99) = true then 1 else 0) = some (.int md) ∧ (md = 29 ∨ md = 10) := by
    by_cases h : decide (V.int mo = V.int 99) = true
    · rw [if_pos h]; exact ⟨10, rfl, .inr rfl⟩
    · rw [if_neg h]; exact ⟨29, rfl, .inl rfl⟩
  refine ⟨_, rfl, rfl, .inr ⟨_, rfl, pL, _, _, _, rfl, rfl, SqL.of upd_same, hmd, _, _, rfl, rfl, (by show (0 : Int) < md; omega), _, _, rfl, rfl, ?_⟩⟩
  have m0 : 0 ≤ r3 % md := Int.emod_nonneg _ (by omega)
  have m1 : r3 % md < md := Int.emod_lt_of_pos _ (by omega)
  have sH3 := sH2.trans (s3.trans sL)
  obtain ⟨m, hm⟩ : ∃ m : Nat, 11 + r3 % md = (m : Int) := ⟨(11 + r3 % md).toNat, by omega⟩
  dsimp only [gName]
  rw [hm]
  have hm39 : m ≤ 39 ∧ 11 ≤ m := by omega
  generalize upd H3 pL (.lst [V.int 29, V.int 10]) = H4 at sH3 ⊢
  clear sL hpL s3 sH2 hmd m0 m1 hm
  -- which
  refine ⟨_, rfl, a, ns, 8, rfl, keepS _ sH3, hl, by decide, by decide, fun r4 H5 r40 _ s5 => ⟨_, _, rfl, rfl, (by show (0 : Int) < 3; decide), rfl, _, rfl, ?_⟩⟩
  have sH5 := sH3.trans s5
  refine ite2 (fun _ => ?_) (fun _ => ?_)
  · refine ⟨_, rfl, _, rfl, by omega, by omega, fun D hD C sx fp => ?_⟩
    refine comp_range (n := m) (tt := fun _ H Q => Q true H) (fun i zs σ H6 => ∃ (o : Option V) (row : List Int), σ = [o, some (.int mo), some (.ref a)] ∧ Same H5 H6 ∧ zs = row.map V.int ∧ row.length = i ∧ ∀ n ∈ row, 1 ≤ n ∧ n ≤ 99) ⟨none, [], rfl, Same.new hD, rfl, rfl, fun _ h => by cases h⟩ ?_ ?_
    · rintro i zs σ H6 hi hzl ⟨o, row, rfl, s6, rfl, rl, hrow⟩ g6
      refine ⟨_, rfl, _, rfl, _, _, rfl, rfl, a, ns, _, rfl, keepS H6 (sH5.trans s6), hl, by omega, by omega, fun r7 H7 r70 _ s7 => ⟨_, rfl, _, _, rfl, rfl, (by show (0 : Int) < mo; omega), _, _, rfl, rfl, ?_⟩⟩
      have n0 : 0 ≤ r7 % mo := Int.emod_nonneg _ (by omega)
      have n1 : r7 % mo < mo := Int.emod_lt_of_pos _ (by omega)
      exact ⟨_, s7 _ _ g6, by rw [szl]; omega, _, by rw [List.length_append]; show _ + 1 ≤ i + 1; omega, ⟨_, row ++ [1 + r7 % mo], rfl, same_upd (s6.trans s7) hD, by rw [List.map_append]; rfl, by rw [List.length_append]; show _ + 1 = i + 1; omega, fun n hn => by rcases List.mem_append.mp hn with z | z; exact hrow n z; rw [List.mem_singleton.mp z]; omega⟩, upd_same⟩
    · rintro zs σ H6 ⟨o, row, rfl, s6, rfl, rl, hrow⟩ g6
      refine ⟨D, _, rfl, .inl ⟨SqL.of g6, fun pr hpr => ?_⟩⟩
      exact q pr row _ (sH5.trans (s6.trans (Same.new hpr))) upd_same ⟨by omega, hrow⟩ (by omega)
  · refine ⟨_, rfl, a, ns, 8, rfl, keepS _ sH5, hl, by decide, by decide, fun r6 H6 r60 _ s6 => ⟨_, _, rfl, rfl, ⟨by decide, by decide⟩, _, _, rfl, rfl, (by show (0 : Int) < 99; decide), _, _, rfl, rfl, ?_⟩⟩
    refine ⟨_, rfl, a, ns, 9, rfl, keepS _ (sH5.trans s6), hl, by decide, by decide, fun r7 H7 r70 _ s7 => ⟨_, _, rfl, rfl, (by show (0 : Int) < 5; decide), _, _, rfl, rfl, (by show 2 ≤ sizeLine; decide), fun pp hpp => ?_⟩⟩
    obtain ⟨p1, hp1⟩ : ∃ p1, p1 = 1 + r6 / 3 % 99 := ⟨_, rfl⟩
    obtain ⟨p2, hp2⟩ : ∃ p2, p2 = 99 - r7 % 5 := ⟨_, rfl⟩
    have b1 : 1 ≤ p1 ∧ p1 ≤ 99 := by omega
    have b2 : 1 ≤ p2 ∧ p2 ≤ 99 := by omega
    have s8 := Same.new (o := .tup ([p1, p2].map V.int)) hpp
    have g8 : (upd H7 pp (.tup [V.int (1 + r6 / 3 % 99), V.int (99 - r7 % 5)])) pp = some (.tup ([p1, p2].map V.int)) := by rw [upd_same, hp1, hp2]; rfl
    have e8 : upd H7 pp (.tup [V.int (1 + r6 / 3 % 99), V.int (99 - r7 % 5)]) = upd H7 pp (.tup ([p1, p2].map V.int)) := by rw [hp1, hp2]; rfl
    have sH8 : Same H (upd H7 pp (.tup [V.int (1 + r6 / 3 % 99), V.int (99 - r7 % 5)])) := by rw [e8]; exact sH5.trans (s6.trans (s7.trans s8))
    dsimp only [gName]
    generalize upd H7 pp (.tup [V.int (1 + r6 / 3 % 99), V.int (99 - r7 % 5)]) = H8 at g8 sH8 ⊢
    refine ⟨_, rfl, a, ns, 4, rfl, keepS _ sH8, hl, by decide, by decide, fun r9 H9 r90 _ s9 => ⟨_, _, rfl, rfl, (by show (0 : Int) < 29; decide), _, _, rfl, rfl, ?_⟩⟩
    have q0 : 0 ≤ r9 % 29 := Int.emod_nonneg _ (by decide)
    have q1 : r9 % 29 < 29 := Int.emod_lt_of_pos _ (by decide)
    refine ⟨_, rfl, by omega, by omega, fun D hD C sx fp => ?_⟩
    have sH9 := sH8.trans s9
    have g9 := s9 _ _ g8
    refine comp_range (tt := fun _ H Q => Q true H) (fun i zs σ H6 => ∃ (o : Option V) (row : List Int), σ = [o, some (.ref pp), some (.ref a)] ∧ Same H9 H6 ∧ zs = row.map V.int ∧ row.length = i ∧ ∀ n ∈ row, 1 ≤ n ∧ n ≤ 99) ⟨none, [], rfl, Same.new hD, rfl, rfl, fun _ h => by cases h⟩ ?_ ?_
    · rintro i zs σ H6 hi hzl ⟨o, row, rfl, s6', rfl, rl, hrow⟩ g6
      refine ⟨_, rfl, _, rfl, _, rfl, _, _, rfl, rfl, a, ns, _, rfl, keepS H6 (sH9.trans s6'), hl, by omega, by omega, fun rA HA rA0 _ sA => ⟨_, _, rfl, rfl, (by show (0 : Int) < 2; decide), ?_⟩⟩
      obtain ⟨v, hv, hvm⟩ := atI_mem (xs := [p1, p2].map V.int) (r := rA % 2) (Int.emod_nonneg _ (by decide)) (Int.emod_lt_of_pos _ (by decide))
      obtain ⟨nn, hnn, rfl⟩ := List.mem_map.mp hvm
      have bn : 1 ≤ nn ∧ nn ≤ 99 := by simp only [List.mem_cons, List.not_mem_nil, or_false] at hnn; rcases hnn with rfl | rfl <;> assumption
      refine ⟨pp, _, _, _, rfl, rfl, SqT.of ((s6'.trans sA) _ _ g9), hv, ?_⟩
      exact ⟨_, sA _ _ g6, by rw [szl]; omega, _, by rw [List.length_append]; show _ + 1 ≤ i + 1; omega, ⟨_, row ++ [nn], rfl, same_upd (s6'.trans sA) hD, by rw [List.map_append]; rfl, by rw [List.length_append]; show _ + 1 = i + 1; omega, fun n hn => by rcases List.mem_append.mp hn with z | z; exact hrow n z; rw [List.mem_singleton.mp z]; exact bn⟩, upd_same⟩
    · rintro zs σ H6 ⟨o, row, rfl, s6', rfl, rl, hrow⟩ g6
      refine ⟨D, _, rfl, .inl ⟨SqL.of g6, fun pr hpr => ?_⟩⟩
      exact q pr row _ (sH9.trans (s6'.trans (Same.new hpr))) upd_same ⟨by omega, hrow⟩ (by omega)
end
end Law

set_option Elab.async false
set_option linter.all false
set_option maxRecDepth 100000
set_option maxHeartbeats 1000000
namespace Law
open PySem L2
section
variable {P : Program} {w : World} {K : PySem.W.Frag} {mg : Str → Option Value} {base : Heap}
theorem kit_tuple_tuple (K : PySem.W.Frag) : PySem.W.kitOne K (.type "tuple") (.type "tuple") = some true := by with_unfolding_all rfl
def AhOk (H : Hp) (l : List (List Str)) (ks : List Int) (i : Nat) (v : V) : Prop := (i = 0 ∧ v = .non) ∨ ∃ j p, i = j + 1 ∧ ks[j]? = some p ∧ Put H v (l.getD p.toNat [])
def spWR (K : PySem.W.Frag) : Sp := fun vs H Q _ => ∃ (a pr pc : Addr) (ns : List Int) (t : Int) (r0 : Int) (rest : List Int) (wish : Int) (ys : List V), vs = [.ref a, .int t, .ref pr, .int wish, .int ((dueS rest (wish - r0)).length : Int), .ref pc] ∧ SqL K H a (ns.map V.int) ∧ ns.length ≤ 63 ∧ (0 ≤ t ∧ t ≤ 100) ∧ H pr = some (.tup ((r0 :: rest).map V.int)) ∧ RowS rest ∧ 0 < (dueS rest (wish - r0)).length ∧ H pc = some (.lst ys) ∧ Paired (Dc H) ys (sfx rest) ∧
  ∀ H' : Hp, Same H H' → Q (.bl true) H'
theorem pair_lt {ks : List Int} (h : ks.Pairwise (· < ·)) {j : Nat} {p q : Int} (hj : ks[j]? = some p) (hk : ks[j + 1]? = some q) : p < q := by
  obtain ⟨l1, rfl⟩ := List.getElem?_eq_some_iff.mp hj
  obtain ⟨l2, rfl⟩ := List.getElem?_eq_some_iff.mp hk
  exact List.pairwise_iff_getElem.mp h j (j + 1) l1 l2 (Nat.lt_succ_self j)
theorem inV_sign {s : Str} (h : s ∈ sg2) : inV (V.str s) [V.str "+", V.str "-"] = true := by
  rcases List.mem_cons.mp h with rfl | h
  · decide +kernel
  · rcases List.mem_cons.mp h with rfl | h
    · decide +kernel
    · cases h
theorem ite_f {c : Bool} {A B : Prop} (h : c = false) (b : B) : if c = true then A else B := by
  rw [h]; exact iteF b
theorem ite_t {c : Bool} {A B : Prop} (h : c = true) (a : A) : if c = true then A else B := by
  rw [h]; exact iteT a
abbrev s_law_ways_right : Stmt := top 21
theorem sc_law_ways_right : FnScope ["script", "turn", "row", "wish", "ways", "later", "ahead", "place", "signs"] ["script", "turn", "row", "wish", "ways", "later"] (defScope s_law_ways_right) := ⟨rfl, rfl, rfl, by decide +kernel, rfl, by decide +kernel, by decide +kernel⟩
theorem ok_wr {f : Addr} {fd : FuncData} (F : Fun K "_law_ways_right" "_law_ways_right" s_law_ways_right f fd) (B : Blt mg) (Bsorted : mg "sorted" = none) (Bset : mg "set" = none) (Gdraw : Def P w K mg base CX0 1 "_law_draw" (spDrawS K)) (Gat : Def P w K mg base CX0 6 "sides_at" (spAt K)) (Glw : Def P w K mg base CX0 1 "_law_worth" (spLW K)) (Gplace : Def P w K mg base CX0 2 "_law_place" (spPlace K)) (Gkeys : Def P w K mg base CX0 1 "_law_keys" spKeys) (Gref : Def P w K mg base CX0 10 "_law_refused" (spRef K)) : FnOk P w K mg base CX0 15 f fd ["script", "turn", "row", "wish", "ways", "later"] (spWR K) := by
  refine F.ok (k := 14) sc_law_ways_right (fun vs H Q E h => ?_) (fun cdv A outer s H vs Q E hr h => ?_)
  · obtain ⟨a, pr, pc, ns, t, r0, rest, wish, ys, rfl, _⟩ := h
    rfl
  obtain ⟨a, pr, pc, ns, t, r0, rest, wish, ys, rfl, hS, hl, ht, gr, hR, hW, gc, py, q⟩ := h
  refine ⟨_, (pss_cons (ps_set (i := 6) sc_law_ways_right.nd rfl (by first | exact Or.inl rfl | exact Or.inr rfl) pe_non)
      (pss_cons (ps_for PassesOwn.never rfl (pi_list (pe_sortSetG rfl (pe_lst (pa_cons pe_int (pa_cons (pe_op op_fdiv (pv 4) pe_int) (pa_cons (pe_op op_sub (pv 4) pe_int) (pa_cons (pe_op op_mod (pe_op op_mul (pe_def Gdraw (hr.mono (by omega)) (pa_cons (pv 0) (pa_cons (pe_op op_add pe_int (pv 1)) pa_nil))) pe_int) (pv 4)) pa_nil))))) Bsorted Bset)) (pg_name (i := 7) sc_law_ways_right.nd rfl (by first | exact Or.inl rfl | exact Or.inr rfl)) (pss_cons (ps_set (i := 8) sc_law_ways_right.nd rfl (by first | exact Or.inl rfl | exact Or.inr rfl) (pe_def Gat (hr.mono (by omega)) (pa_cons (pv 2) (pa_cons (pv 3) (pa_cons (pv 7) pa_nil)))))
      (pss_cons (ps_if (PW.pt (pw_or (pt_not (pt_val (pe_isin B.isinstance B.tuple bt_tuple (pv 8)))) (pw_or1 (pt_cmpR (op_neNil (hu60 hr)) (pe_comp (N := ["sign"]) rfl (cs_of [none] rfl (by decide +kernel) (by decide +kernel) rfl rfl) rfl (pi_tup (pv 8)) (fun _ _ _ _ => (pg_name (i := 0) (show (["sign"] : List Str).Nodup by decide +kernel) rfl (by first | exact Or.inl rfl | exact Or.inr rfl))) (fun _ _ _ _ => (ptl_one (pt_cmpR op_notIn_seq (pv 0) (pe_tup (pa_cons pe_str (pa_cons pe_str pa_nil))) rfl))) (fun _ _ _ _ => (pv 0))) (pe_lst pa_nil) (nomark _))))) (pss_one (ps_ret pe_bl)) pss_nil)
      (pss_cons (ps_if (PW.pt (pw_or (pt_cmpR op_ne (pe_callB call_len_seq rfl B.len bt_len (pa_cons (pv 8) pa_nil)) (pe_op op_sub (pe_callB call_len_seq rfl B.len bt_len (pa_cons (pv 2) pa_nil)) pe_int) (nomark _)) (pw_or1 (pt_cmpR op_ne (pe_def Glw (hr.mono (by omega)) (pa_cons (pv 2) (pa_cons (pv 8) pa_nil))) (pv 3) (nomark _))))) (pss_one (ps_ret pe_bl)) pss_nil)
      (pss_cons (ps_if (pt_cmpR op_ne (pe_def Gplace (hr.mono (by omega)) (pa_cons (pv 2) (pa_cons (pv 8) (pa_cons (pv 5) pa_nil)))) (pv 7) (nomark _)) (pss_one (ps_ret pe_bl)) pss_nil)
      (pss_cons (ps_if (PW.pt (pw_and (pt_cmpR op_notN (pv 6) pe_non (nomark _)) (pw_and1 (pt_not (pt_cmpR (op_ltL (hu60 hr)) (pe_def Gkeys (hr.mono (by omega)) (pa_cons (pv 6) pa_nil)) (pe_def Gkeys (hr.mono (by omega)) (pa_cons (pv 8) pa_nil)) (nomark _)))))) (pss_one (ps_ret pe_bl)) pss_nil)
      (pss_one (ps_set (i := 6) sc_law_ways_right.nd rfl (by first | exact Or.inl rfl | exact Or.inr rfl) (pv 8)))))))))
      (pss_one (ps_ret (pe_and (pe_def Gref (hr.mono (by omega)) (pa_cons (pv 2) (pa_cons (pv 3) (pa_cons (pv 4) pa_nil)))) (pe_one (pe_def Gref (hr.mono (by omega)) (pa_cons (pv 2) (pa_cons (pv 3) (pa_cons (pe_un un_neg pe_int) pa_nil)))))))))), ?_⟩
  have szl := sizeLine_eq
  have hR1 := hR.1
  have keepS : ∀ H', Same H H' → SqL K H' a (ns.map V.int) := fun H' s' => sql_same s' hS
  obtain ⟨ways, hways⟩ : ∃ ways : Nat, ways = (dueS rest (wish - r0)).length := ⟨_, rfl⟩
  rw [← hways] at hW ⊢
  refine ⟨_, rfl, _, _, rfl, rfl, ⟨by decide, by decide⟩, _, rfl, _, _, rfl, rfl, _, rfl, _, rfl, _, _, rfl, rfl, a, ns, _, rfl, hS, hl, by omega, by omega, fun r1 H1 r10 r11 s1 => ⟨_, _, rfl, rfl, .inr ⟨by decide, by decide⟩, _, rfl, _, _, rfl, rfl, (by show (0 : Int) < ways; omega), (by show 4 ≤ sizeLine; decide), fun pL hpL => ?_⟩⟩
  have sL := Same.new (o := .lst [V.int 0, V.int ((ways : Int) / 2), V.int ((ways : Int) - 1), V.int (r1 * 1000003 % ways)]) hpL
  refine ⟨pL, [0, (ways : Int) / 2, (ways : Int) - 1, r1 * 1000003 % ways], rfl, upd_same, (by show 4 ≤ 4000; decide), fun pk ks H2 s2 gk hks mks => ?_⟩
  have sH2 := s1.trans (sL.trans s2)
  have kb : ∀ p ∈ ks, 0 ≤ p ∧ p < (ways : Int) := fun p hp => by
    have h1 : 0 ≤ r1 * 1000003 % ways := Int.emod_nonneg _ (by omega)
    have h2 : r1 * 1000003 % ways < ways := Int.emod_lt_of_pos _ (by omega)
    have := (mks p).mp hp
    simp only [List.mem_cons, List.not_mem_nil, or_false] at this
    rcases this with rfl | rfl | rfl | rfl <;> omega
  refine ⟨pk, rfl, ⟨_, SqL.of gk⟩, for_list (K := K) (a := pk) (xs := ks.map V.int) (fun i σ H' => ∃ (v : V) (z1 z2 : Option V), σ = [some (.ref a), some (.int t), some (.ref pr), some (.int wish), some (.int ways), some (.ref pc), some v, z1, z2] ∧ Same H2 H' ∧ AhOk H' (dueS rest (wish - r0)) ks i v)
    ⟨.non, none, none, rfl, fun _ _ e => e, .inl ⟨rfl, rfl⟩⟩ (fun i σ H' _ ⟨_, _, _, _, g, _⟩ => SqL.of (g _ _ gk)) ?_ ?_⟩
  · rintro i x σ H3 hi ⟨ah, z1, z2, rfl, s3, hah⟩
    rw [List.getElem?_map] at hi
    obtain ⟨p, hp, rfl⟩ : ∃ p, ks[i]? = some p ∧ V.int p = x := by
      cases e : ks[i]? with
      | none => rw [e] at hi; cases hi
      | some n => rw [e] at hi; exact ⟨n, rfl, by simpa using hi⟩
    obtain ⟨p0, p1⟩ := kb p (List.mem_of_getElem? hp)
    have sH3 := sH2.trans s3
    refine ⟨_, rfl, _, rfl, _, rfl, pr, r0, rest, wish, p, rfl, fun H' s' => SqT.of (s' _ _ (sH3 _ _ gr)), hR, ⟨p0, by omega⟩, fun v H4 s4 hput => ?_⟩
    have hpn : p.toNat < (dueS rest (wish - r0)).length := by omega
    obtain ⟨ss, hss⟩ : ∃ ss, ss = (dueS rest (wish - r0)).getD p.toNat [] := ⟨_, rfl⟩
    obtain ⟨hc1, hc2⟩ := due_mem (getD_in (d := []) hpn)
    rw [← hss] at hput hc1 hc2
    have hsl : ss.length = rest.length := chs_len sg2 _ ss hc1
    obtain ⟨qs, rfl, gs⟩ := id hput
    have sH4 := sH3.trans s4
    dsimp only [gName]
    -- a tuple of plus and less
    refine seq_key (fun σ' H' => σ' = [some (.ref a), some (.int t), some (.ref pr), some (.int wish), some (.int ways), some (.ref pc), some ah, some (.int p), some (.ref qs)] ∧ Same H4 H') ?_ ?_
    case refine_2 =>
      intro X' hX
      refine ⟨_, rfl, _, _, TyOf.tup gs, kit_tuple_tuple _, _, rfl, iteF ?_⟩
      refine ⟨_, rfl, qs, rfl, ⟨_, SqT.of gs⟩, fun D hD C sx fp => ?_⟩
      refine comp_tup (K := K) (a := qs) (xs := ss.map V.str) (fun j ws σ H5 => ∃ o : Option V, σ = [o] ∧ Same H4 H5 ∧ ws = []) (fun j ws σ H5 ⟨_, _, g, _⟩ => SqT.of (g _ _ gs)) ⟨none, rfl, Same.new hD, rfl⟩ ?_ ?_
      · rintro j y ws σ H5 hj hwl ⟨o, rfl, s5, rfl⟩ g5
        rw [List.getElem?_map] at hj
        obtain ⟨sn, hsn, rfl⟩ : ∃ sn, ss[j]? = some sn ∧ V.str sn = y := by
          cases e : ss[j]? with
          | none => rw [e] at hj; cases hj
          | some n => rw [e] at hj; exact ⟨n, rfl, by simpa using hj⟩
        refine ⟨_, rfl, (by show 2 ≤ sizeLine; decide), fun pt hpt => ?_⟩
        have st := Same.new (o := .tup [V.str "+", V.str "-"]) hpt
        exact ⟨pt, _, rfl, .inr (SqT.of upd_same), rfl, rfl, _, rfl, ite_f (by rw [if_pos rfl, inV_sign (chs_mem sg2 _ ss hc1 sn (List.mem_of_getElem? hsn))]; rfl) ⟨[], by show 0 ≤ j + 1; omega, ⟨_, rfl, s5.trans st, rfl⟩, st _ _ g5⟩⟩
      · rintro ws σ H5 ⟨o, rfl, s5, rfl⟩ g5
        refine ⟨(by show 0 ≤ sizeLine; decide), fun pn hpn' => ?_⟩
        have sn := Same.new (o := .lst []) hpn'
        exact ⟨D, pn, [], rfl, rfl, SqL.of (sn _ _ g5), SqL.of upd_same, _, rfl, iteF (hX _ _ ⟨rfl, s5.trans sn⟩)⟩
    rintro σ' H6 ⟨rfl, s46⟩
    have sH6 := sH4.trans s46
    have gs6 := s46 _ _ gs
    have gr6 := sH6 _ _ gr
    have put6 : Put H6 (.ref qs) ss := ⟨qs, rfl, gs6⟩
    -- length, worth
    refine seq_key (fun σ' H' => σ' = [some (.ref a), some (.int t), some (.ref pr), some (.int wish), some (.int ways), some (.ref pc), some ah, some (.int p), some (.ref qs)] ∧ Same H6 H') ?_ ?_
    case refine_2 =>
      intro X' hX
      have el : ((ss.map V.str).length : Int) = (((r0 :: rest).map V.int).length : Int) - 1 := by
        rw [List.length_map, List.length_map, List.length_cons]; omega
      refine ⟨_, rfl, qs, _, rfl, .inr (SqT.of gs6), _, rfl, pr, _, rfl, .inr (SqT.of gr6), _, _, rfl, rfl, rfl, _, rfl, iteNS (by rw [el]) ?_⟩
      exact ⟨_, rfl, _, rfl, pr, _, r0, rest, ss, rfl, fun H' s' => SqT.of (s' _ _ gr6), put6, hsl, hR, fun H7 s7 => ⟨_, rfl, rfl, _, rfl, iteNS (by rw [hc2, show r0 + (wish - r0) = wish by omega]) (hX _ _ ⟨rfl, s7⟩)⟩⟩
    rintro σ' H7 ⟨rfl, s7⟩
    have sH7 := sH6.trans s7
    -- its place
    refine seq_key (fun σ' H' => σ' = [some (.ref a), some (.int t), some (.ref pr), some (.int wish), some (.int ways), some (.ref pc), some ah, some (.int p), some (.ref qs)] ∧ Same H7 H') ?_ ?_
    case refine_2 =>
      intro X' hX
      exact ⟨_, rfl, _, rfl, _, rfl, pr, pc, _, r0, rest, ss, ys, rfl, fun H' s' => SqT.of (s' _ _ (sH7 _ _ gr)), ⟨qs, rfl, s7 _ _ gs6⟩, hsl, hR, sH7 _ _ gc, L2.Paired.mapP py fun v x ⟨e, h1, h2⟩ => ⟨e, h1, rd_same sH7 h2⟩, fun H8 s8 => ⟨_, rfl, rfl, _, rfl, iteNS (by rw [hss, idx_nth _ _ _ hpn]; congr 1; omega) (hX _ _ ⟨rfl, s8⟩)⟩⟩
    rintro σ' H8 ⟨rfl, s8⟩
    have s28 : Same H2 H8 := s3.trans (s4.trans (s46.trans (s7.trans s8)))
    have gs8 := (s7.trans s8) _ _ gs6
    have s38 : Same H3 H8 := s4.trans (s46.trans (s7.trans s8))
    refine seq_key (fun σ' H' => σ' = [some (.ref a), some (.int t), some (.ref pr), some (.int wish), some (.int ways), some (.ref pc), some ah, some (.int p), some (.ref qs)] ∧ Same H8 H') ?_ ?_
    case refine_2 =>
      intro X' hX
      refine ⟨_, rfl, rfl, _, rfl, ?_⟩
      rcases hah with ⟨_, rfl⟩ | ⟨j, p', ej, hj, hput'⟩
      · exact ite_f (by rw [decide_eq_true rfl]; rfl) (iteF (hX _ _ ⟨rfl, fun _ _ e => e⟩))
      · obtain ⟨q', rfl, gq⟩ := id hput'
        have hpn2 : p'.toNat < (dueS rest (wish - r0)).length := by
          have := kb p' (List.mem_of_getElem? hj)
          omega
        have hsl' : ((dueS rest (wish - r0)).getD p'.toNat []).length = rest.length := chs_len sg2 _ _ (due_mem (getD_in (d := []) hpn2)).1
        have hlt : p' < p := pair_lt hks hj (by rw [← ej]; exact hp)
        exact ite_t (by rw [decide_eq_false (fun z => by cases z)]; rfl) ⟨_, rfl, _, _, rfl, hput'.kt (KT.same s38), by omega, fun k1 H9 s9 g9 => ⟨_, rfl, _, ss, rfl, ⟨qs, rfl, s9 _ _ gs8⟩, by omega, fun k2 HA sA gA => ⟨k1, k2, _, _, rfl, rfl, SqL.of (sA _ _ g9), SqL.of gA, by unfold keyOf; rw [List.length_map, List.length_map]; omega, _, rfl, ite_f (by rw [hss, key_rise rest (wish - r0) p'.toNat p.toNat (by have := kb p' (List.mem_of_getElem? hj); omega) hpn]; rfl) (hX _ _ ⟨rfl, s9.trans sA⟩)⟩⟩⟩
    rintro σ' H9 ⟨rfl, s9⟩
    exact ⟨_, rfl, _, _, _, rfl, s28.trans s9, .inr ⟨i, p, rfl, hp, ⟨qs, rfl, by rw [← hss]; exact s9 _ _ gs8⟩⟩⟩
  · rintro σ H3 ⟨ah, z1, z2, rfl, s3, hah⟩
    have sH3 := sH2.trans s3
    refine ⟨_, rfl, _, rfl, _, rfl, pr, r0, rest, wish, _, rfl, fun H' s' => SqT.of (s' _ _ (sH3 _ _ gr)), hR, by rw [hways]; omega, fun H4 s4 => ⟨_, rfl, iteT ?_⟩⟩
    refine ⟨_, rfl, _, rfl, _, rfl, pr, r0, rest, wish, -1, rfl, fun H' s' => SqT.of (s' _ _ ((sH3.trans s4) _ _ gr)), hR, by omega, fun H5 s5 => ?_⟩
    exact q H5 (sH3.trans (s4.trans s5))
end
end Law

set_option Elab.async false
set_option linter.all false
set_option maxRecDepth 100000
set_option maxHeartbeats 1000000
namespace Law
open PySem L2
section
variable {P : Program} {w : World} {K : PySem.W.Frag} {mg : Str → Option Value} {base : Heap}
variable {W T S N : Addr} {bT bS bN : List Value}
theorem reps_intL {K : PySem.W.Frag} {H : Hp} : ∀ l : List Int, Reps K H (l.map D.int) (l.map V.int)
  | [] => by unfold Reps; rfl
  | i :: r => by
    show Reps K H (D.int i :: r.map D.int) (V.int i :: r.map V.int)
    unfold Reps
    exact ⟨_, _, rfl, by unfold Rep; rfl, reps_intL r⟩
theorem deps_intL : ∀ l : List Int, deps (l.map D.int) = 0
  | [] => by rw [List.map_nil, deps]
  | i :: r => by
    rw [List.map_cons, deps, deps_intL r, D.dep]
    all_goals simp
theorem valV_in : ∀ {ps : Ps} {c : Int}, c ∈ keysP ps → valV (ps.map kvI) (Sum.inl c) = some (.int (look ps c))
  | [], _, h => by cases h
  | (k, v) :: r, c, h => by
    rw [List.map_cons]
    unfold look
    by_cases e : k = c
    · rw [valV_pos (by show (Sum.inl k : Key) = Sum.inl c; rw [e]), if_pos e]; rfl
    · rw [valV_neg (by show ¬ (Sum.inl k : Key) = Sum.inl c; intro z; cases z; exact e rfl), if_neg e]
      exact valV_in (by rcases List.mem_cons.mp h with z | z; exact absurd z.symm e; exact z)
theorem flat_ints : ∀ l : List Int, (l.map V.int).all flatV = true
  | [] => rfl
  | i :: r => by rw [List.map_cons, List.all_cons, flat_ints r]; rfl
theorem inV_int : ∀ {l : List Int} {x : Int}, x ∈ l → inV (V.int x) (l.map V.int) = true
  | [], _, h => by cases h
  | i :: r, x, h => by
    unfold inV
    rw [List.map_cons, List.any_cons]
    rcases List.mem_cons.mp h with rfl | h
    · rw [show eqV (V.int x) (V.int x) = true by simp [eqV]]; rfl
    · have := inV_int h
      unfold inV at this
      rw [this, Bool.or_true]
theorem met_mem {r0 : Int} {rest ms : List Int} (mms : ∀ m, m ∈ ms ↔ ∃ ss ∈ chs sg2 rest.length, r0 + sgS rest ss = m) (m : Int) : m ∈ ms ↔ m - r0 ∈ keysP (dic rest) := by
  rw [mms, mem_dic]
  constructor
  · rintro ⟨ss, h1, h2⟩; exact ⟨ss, h1, by omega⟩
  · rintro ⟨ss, h1, h2⟩; exact ⟨ss, h1, by omega⟩
abbrev s_law : Stmt := top 22
theorem sc_law : FnScope ["script", "row", "met", "later", "counts", "turn", "wish", "ways", "one"] ["script"] (defScope s_law) := ⟨rfl, rfl, rfl, by decide +kernel, rfl, by decide +kernel, by decide +kernel⟩
theorem ok_law {f : Addr} {fd : FuncData} (F : Fun K "law" "law" s_law f fd) (B : Blt mg) (Bmax : mg "max" = none) (Blist : mg "list" = none) (Bsorted : mg "sorted" = none) (Bset : mg "set" = none) (Gdraw : Def P w K mg base CX0 1 "_law_draw" (spDrawS K)) (Grow : Def P w K mg base CX0 2 "_law_row" (spRow K)) (Gmet : Def P w K mg base CX0 3 "sides_met" (spMet K)) (Gmany : Def P w K mg base CX0 3 "sides_many" (spMany K)) (Gahead : Def P w K mg base CX0 1 "_law_ahead" (spSB K)) (Gcnt : Def P w K mg base CX0 1 "_law_counts" (spCnt K)) (Gwr : Def P w K mg base CX0 15 "_law_ways_right" (spWR K)) : FnOk P w K mg base CX0 30 f fd ["script"] (spLaw K) := by
  refine F.ok (k := 29) sc_law (fun vs H Q E h => ?_) (fun cdv A outer s H vs Q E hr h => ?_)
  · obtain ⟨a, ns, rfl, _⟩ := h
    rfl
  obtain ⟨a, ns, rfl, hS, hl, q⟩ := h
  refine ⟨_, (pss_cons (ps_set (i := 1) sc_law.nd rfl (by first | exact Or.inl rfl | exact Or.inr rfl) (pe_def Grow (hr.mono (by omega)) (pa_cons (pv 0) pa_nil)))
      (pss_cons (ps_set (i := 2) sc_law.nd rfl (by first | exact Or.inl rfl | exact Or.inr rfl) (pe_def Gmet (hr.mono (by omega)) (pa_cons (pv 1) pa_nil)))
      (pss_cons (ps_if (PW.pt (pw_or (pt_cmpR (op_neS (hu60 hr)) (pe_callTy call_list_of rfl Blist bt_list (pa_cons (pv 2) pa_nil)) (pe_sortSetT rfl (pv 2) Bsorted Bset) (nomark _)) (pw_or (pt_cmpR op_ne (pe_ix ix_tup (pv 2) (pe_un un_neg pe_int) (fun _ _ => rfl)) (pe_callB (call_sumT rfl) rfl B.sum bt_sum (pa_cons (pv 1) pa_nil)) (nomark _)) (pw_or1 (pt_cmpR op_ne (pe_ix ix_tup (pv 2) pe_int (fun _ _ => rfl)) (pe_op op_sub (pe_op op_mul pe_int (pe_ix ix_tup (pv 1) pe_int (fun _ _ => rfl))) (pe_callB (call_sumT rfl) rfl B.sum bt_sum (pa_cons (pv 1) pa_nil))) (nomark _)))))) (pss_one (ps_ret pe_bl)) pss_nil)
      (pss_cons (ps_if (PW.pt (pw_and (pt_cmpR op_lt (pe_callB call_len_seq rfl B.len bt_len (pa_cons (pv 2) pa_nil)) pe_int (nomark _)) (pw_and1 (pt_cmpR op_ne (pe_callB (call_sum rfl) rfl B.sum bt_sum (pa_cons (pe_comp (N := ["wish", "row"]) rfl (cs_of [none, some 1] rfl (by decide +kernel) (by decide +kernel) rfl rfl) rfl (pi_tup (pv 2)) (fun _ _ _ _ => (pg_name (i := 0) (show (["wish", "row"] : List Str).Nodup by decide +kernel) rfl (by first | exact Or.inl rfl | exact Or.inr rfl))) (fun _ _ _ _ => ptl_nil) (fun _ _ _ _ => (pe_def Gmany (hr.mono (by omega)) (pa_cons (pv 1) (pa_cons (pv 0) pa_nil))))) pa_nil)) (pe_op op_shl pe_int (pe_op op_sub (pe_callB call_len_seq rfl B.len bt_len (pa_cons (pv 1) pa_nil)) pe_int)) (nomark _))))) (pss_one (ps_ret pe_bl)) pss_nil)
      (pss_cons (ps_set (i := 3) sc_law.nd rfl (by first | exact Or.inl rfl | exact Or.inr rfl) (pe_def Gahead (hr.mono (by omega)) (pa_cons (pv 1) pa_nil)))
      (pss_cons (ps_set (i := 4) sc_law.nd rfl (by first | exact Or.inl rfl | exact Or.inr rfl) (pe_def Gcnt (hr.mono (by omega)) (pa_cons (pv 1) pa_nil)))
      (pss_cons (ps_if (pt_cmpR (op_neS (hu60 hr)) (pv 2) (pe_callTy call_tuple_of rfl B.tuple bt_tuple (pa_cons (pe_callB (call_sortDk rfl) rfl Bsorted bt_sorted (pa_cons (pv 4) pa_nil)) pa_nil)) (nomark _)) (pss_one (ps_ret pe_bl)) pss_nil)
      (pss_cons (ps_for PassesOwn.never rfl (pi_range1 rfl B.range (pa_cons (pe_ix ix_list (pe_lst (pa_cons pe_int (pa_cons pe_int pa_nil))) (pe_callTy call_int1 rfl B.int bt_int (pa_cons (pe_cmpR op_gt (pe_callB (call_maxT rfl) rfl Bmax bt_max (pa_cons (pv 1) pa_nil)) pe_int (nomark _)) pa_nil)) (fun _ _ => rfl)) pa_nil)) (pg_name (i := 5) sc_law.nd rfl (by first | exact Or.inl rfl | exact Or.inr rfl)) (pss_cons (ps_set (i := 6) sc_law.nd rfl (by first | exact Or.inl rfl | exact Or.inr rfl) (pe_ix ix_tup (pv 2) (pe_op op_mod (pe_def Gdraw (hr.mono (by omega)) (pa_cons (pv 0) (pa_cons (pe_op op_add pe_int (pv 5)) pa_nil))) (pe_callB call_len_seq rfl B.len bt_len (pa_cons (pv 2) pa_nil))) (fun _ _ => rfl)))
      (pss_cons (ps_set (i := 7) sc_law.nd rfl (by first | exact Or.inl rfl | exact Or.inr rfl) (pe_def Gmany (hr.mono (by omega)) (pa_cons (pv 1) (pa_cons (pv 6) pa_nil))))
      (pss_cons (ps_if (PW.pt (pw_or (pt_cmpR op_ne (pv 7) (pe_dget (hu_of hr) (pv 4) (pv 6) (fun _ _ => rfl)) (nomark _)) (pw_or1 (pt_cmpR op_ne (pe_def Gmany (hr.mono (by omega)) (pa_cons (pv 1) (pa_cons (pe_op op_sub (pe_op op_mul pe_int (pe_ix ix_tup (pv 1) pe_int (fun _ _ => rfl))) (pv 6)) pa_nil))) (pv 7) (nomark _))))) (pss_one (ps_ret pe_bl)) pss_nil)
      (pss_cons (ps_if (pt_not (pt_val (pe_def Gwr (hr.mono (by omega)) (pa_cons (pv 0) (pa_cons (pv 5) (pa_cons (pv 1) (pa_cons (pv 6) (pa_cons (pv 7) (pa_cons (pv 3) pa_nil))))))))) (pss_one (ps_ret pe_bl)) pss_nil)
      (pss_cons (ps_if (PW.pt (pw_and (pt_cmpR op_notIn_seq (pe_op op_add (pv 6) pe_int) (pv 2) rfl) (pw_and1 (pt_cmpR op_ne (pe_def Gmany (hr.mono (by omega)) (pa_cons (pv 1) (pa_cons (pe_op op_add (pv 6) pe_int) pa_nil))) pe_int (nomark _))))) (pss_one (ps_ret pe_bl)) pss_nil)
      (pss_cons (ps_set (i := 8) sc_law.nd rfl (by first | exact Or.inl rfl | exact Or.inr rfl) (pe_ix ix_tup (pv 1) pe_int (fun _ _ => rfl)))
      (pss_one (ps_if (pt_cmpR op_ne (pe_def Gmany (hr.mono (by omega)) (pa_cons (pe_op op_catG (pv 1) (pe_tup (pa_cons (pv 8) pa_nil))) (pa_cons (pv 6) pa_nil))) (pe_op op_add (pe_def Gmany (hr.mono (by omega)) (pa_cons (pv 1) (pa_cons (pe_op op_sub (pv 6) (pv 8)) pa_nil))) (pe_def Gmany (hr.mono (by omega)) (pa_cons (pv 1) (pa_cons (pe_op op_add (pv 6) (pv 8)) pa_nil)))) (nomark _)) (pss_one (ps_ret pe_bl)) pss_nil)))))))))
      (pss_one (ps_ret pe_bl)))))))))), ?_⟩
  have szl := sizeLine_eq
  have keepS : ∀ H', Same H H' → SqL K H' a (ns.map V.int) := fun H' s' => sql_same s' hS
  refine ⟨_, rfl, a, ns, rfl, hS, hl, fun pr row H1 s1 gr hRow hrow1 => ?_⟩
  obtain ⟨r0, rest, rfl⟩ : ∃ r0 rest, row = r0 :: rest := by
    cases row with
    | nil => simp at hrow1
    | cons x y => exact ⟨x, y, rfl⟩
  have hR38 : rest.length ≤ 38 := by have := hRow.1; rw [List.length_cons] at this; omega
  have hr0 := hRow.2 r0 (List.mem_cons_self ..)
  have hR : RowS rest := ⟨by omega, fun n hn => hRow.2 n (List.mem_cons_of_mem _ hn)⟩
  have at0 : atI ((r0 :: rest).map V.int) 0 = some (.int r0) := atI_nat (j := 0) rfl
  -- met
  refine ⟨_, rfl, pr, r0, rest, rfl, fun H' s' => SqT.of (s' _ _ gr), hR, fun pm ms H2 s2 gm hms mms => ?_⟩
  have mk0 := met_mem mms
  have nd : ms.Nodup := hms.imp fun h => by omega
  have ml : ms.length ≤ 3862 := by
    have h1 := dic_lenS hR
    have := nodup_le (ks := ms) (xs := (keysP (dic rest)).map (r0 + ·)) nd fun m hm => List.mem_map.mpr ⟨m - r0, (mk0 m).mp hm, by omega⟩
    unfold keysP at this
    rw [List.length_map, List.length_map] at this
    omega
  obtain ⟨l1, el1⟩ := rise_top (M := r0 + rest.sum) hms ((mk0 _).mpr (by rw [show r0 + rest.sum - r0 = rest.sum by omega]; exact key_top rest)) fun m hm => by have := key_bd hR.2 _ ((mk0 m).mp hm); omega
  obtain ⟨l2, el2⟩ := rise_low (M := r0 - rest.sum) hms ((mk0 _).mpr (by rw [show r0 - rest.sum - r0 = -rest.sum by omega]; exact key_low rest)) fun m hm => by have := key_bd hR.2 _ ((mk0 m).mp hm); omega
  have sH2 := s1.trans s2
  have gr2 := s2 _ _ gr
  dsimp only [gName]
  refine seq_key (fun σ' H' => σ' = [some (.ref a), some (.ref pr), some (.ref pm), none, none, none, none, none, none] ∧ Same H2 H') ?_ ?_
  case refine_2 =>
    intro X' hX
    refine ⟨_, rfl, pm, _, rfl, .inr (SqT.of gm), fun pl hpl => ?_⟩
    have sl := Same.new (o := .lst (ms.map V.int)) hpl
    refine ⟨_, rfl, pm, ms, rfl, SqT.of (sl _ _ gm), by omega, fun pk ks H3 s3 gk hks mks => ?_⟩
    have emk : ks = ms := strict_unique hks hms mks
    subst emk
    refine ⟨ks.map L2.D.int, ks.map L2.D.int, .inl ⟨⟨pl, _, rfl, SqL.of (s3 _ _ upd_same), reps_intL ks⟩, ⟨pk, _, rfl, SqL.of gk, reps_intL ks⟩⟩, by rw [deps_intL]; decide, _, rfl, ite_f (by rw [if_pos rfl, eqDs_refl]; rfl) ?_⟩
    have s23 := sl.trans s3
    have gm3 := s23 _ _ gm
    have gr3 := s23 _ _ gr2
    refine ⟨_, rfl, _, rfl, pm, _, -1, .int (r0 + rest.sum), rfl, rfl, SqT.of gm3, (by rw [el1, List.map_append]; exact last_atV _ _), _, rfl, pr, r0 :: rest, rfl, SqT.of gr3, rfl, _, rfl, iteNS (by rw [List.sum_cons]) ?_⟩
    exact ⟨_, rfl, pm, _, 0, .int (r0 - rest.sum), rfl, rfl, SqT.of gm3, (by rw [el2]; exact atI_nat (j := 0) rfl), _, rfl, pr, _, 0, .int r0, rfl, rfl, SqT.of gr3, at0, _, _, rfl, rfl, .inl ⟨by decide, by decide⟩, _, rfl, pr, r0 :: rest, rfl, SqT.of gr3, _, _, rfl, rfl, rfl, _, rfl, iteNS (by rw [List.sum_cons]; congr 1; omega) (hX _ _ ⟨rfl, s23⟩)⟩
  rintro σ' H3 ⟨rfl, s23⟩
  have gm3 := s23 _ _ gm
  have gr3 := s23 _ _ gr2
  have sH3 := sH2.trans s23
  clear s23 gm gr gr2 s2 s1
  -- all ways
  refine seq_key (fun σ' H' => σ' = [some (.ref a), some (.ref pr), some (.ref pm), none, none, none, none, none, none] ∧ Same H3 H') ?_ ?_
  case refine_2 =>
    intro X' hX
    refine ⟨_, rfl, pm, _, rfl, .inr (SqT.of gm3), _, _, rfl, rfl, _, rfl, ?_⟩
    refine ite2 (fun _ => ?_) (fun _ => iteF (hX _ _ ⟨rfl, fun _ _ e => e⟩))
    refine ⟨_, rfl, pm, rfl, ⟨_, SqT.of gm3⟩, fun D hD C sx fp => ?_⟩
    refine comp_tup (K := K) (a := pm) (xs := ms.map V.int) (tt := fun _ H Q => Q true H) (fun j ws σ H4 => ∃ o : Option V, σ = [o, some (.ref pr)] ∧ Same H3 H4 ∧ ws = ((ms.take j).map fun m => ((dueS rest (m - r0)).length : Int)).map V.int) (fun j ws σ H4 ⟨_, _, g, _⟩ => SqT.of (g _ _ gm3)) ⟨none, rfl, Same.new hD, rfl⟩ ?_ ?_
    · rintro j y ws σ H4 hj hwl ⟨o, rfl, s4, rfl⟩ g4
      rw [List.getElem?_map] at hj
      obtain ⟨m, hm, rfl⟩ : ∃ m, ms[j]? = some m ∧ V.int m = y := by
        cases e : ms[j]? with
        | none => rw [e] at hj; cases hj
        | some n => rw [e] at hj; exact ⟨n, rfl, by simpa using hj⟩
      have hjl : j < ms.length := (List.getElem?_eq_some_iff.mp hm).1
      refine ⟨_, rfl, _, rfl, pr, r0, rest, m, rfl, fun H' s' => SqT.of (s' _ _ (s4 _ _ gr3)), hR, fun H5 s5 => ⟨_, s5 _ _ g4, by rw [szl]; omega, _, by rw [List.length_append]; show _ + 1 ≤ j + 1; omega, ⟨_, rfl, same_upd (s4.trans s5) hD, ?_⟩, upd_same⟩⟩
      rw [take_snoc hm, List.map_append, List.map_append]; rfl
    · rintro ws σ H4 ⟨o, rfl, s4, rfl⟩ g4
      rw [List.length_map, List.take_length] at g4
      refine ⟨D, _, rfl, SqL.of g4, _, rfl, pr, _, rfl, .inr (SqT.of (s4 _ _ gr3)), _, _, rfl, rfl, _, _, rfl, rfl, ⟨?_, ?_, by decide⟩, rfl, _, rfl, iteNS ?_ (hX _ _ ⟨rfl, s4⟩)⟩
      · rw [List.length_map, List.length_cons]; omega
      · rw [List.length_map, List.length_cons]; omega
      · rw [all_ways nd mms, List.length_map, List.length_cons]; dsimp only; rw [show (((rest.length + 1 : Nat) : Int) - 1).toNat = rest.length by omega, Int.one_mul]
  rintro σ' H4 ⟨rfl, s4⟩
  have gm4 := s4 _ _ gm3
  have gr4 := s4 _ _ gr3
  have sH4 := sH3.trans s4
  -- later, counts
  refine ⟨_, rfl, pr, r0, rest, rfl, fun H' s' => SqT.of (s' _ _ gr4), hR, fun pc ys H5 s5 _ gc py => ?_⟩
  refine ⟨_, rfl, pr, r0, rest, rfl, fun H' s' => SqT.of (s' _ _ (s5 _ _ gr4)), hR, fun pd H6 s6 _ gd => ?_⟩
  have s46 := s5.trans s6
  dsimp only [gName]
  refine seq_key (fun σ' H' => σ' = [some (.ref a), some (.ref pr), some (.ref pm), some (.ref pc), some (.ref pd), none, none, none, none] ∧ Same H6 H') ?_ ?_
  case refine_2 =>
    intro X' hX
    refine ⟨_, rfl, _, rfl, pd, (fwd r0 rest).map kvI, keysP (fwd r0 rest), rfl, .inl gd, by unfold keysP; rw [List.map_map, List.map_map]; rfl, by rw [List.length_map]; have := fwd_len r0 hR; omega, fun pk ks' H7 s7 gk hk mk => ?_⟩
    have emk : ks' = ms := strict_unique hk hms fun x => by rw [mk, fwd_mem, mk0]
    subst emk
    refine ⟨pk, _, rfl, .inl ⟨SqL.of gk, fun pq hpq => ?_⟩⟩
    have sq := Same.new (o := .tup (ks'.map V.int)) hpq
    have s67 := s7.trans sq
    exact ⟨ks'.map L2.D.int, ks'.map L2.D.int, .inr ⟨⟨pm, _, rfl, SqT.of (s67 _ _ (s46 _ _ gm4)), reps_intL ks'⟩, ⟨pq, _, rfl, SqT.of upd_same, reps_intL ks'⟩⟩, by rw [deps_intL]; decide, _, rfl, ite_f (by rw [if_pos rfl, eqDs_refl]; rfl) (hX _ _ ⟨rfl, s67⟩)⟩
  rintro σ' H8 ⟨rfl, s68⟩
  have gd8 := s68 _ _ gd
  have gc8 := (s6.trans s68) _ _ gc
  have py8 : Paired (Dc H8) ys (sfx rest) := L2.Paired.mapP py fun v x ⟨e, h1, h2⟩ => ⟨e, h1, rd_same (s6.trans s68) h2⟩
  have gm8 := (s46.trans s68) _ _ gm4
  have gr8 := (s46.trans s68) _ _ gr4
  have sH8 := sH4.trans (s46.trans s68)
  clear gd s6 gc py s5 s46 gm4 gr4 sH4 s4 gm3 gr3 sH3 s68
  -- the wishes
  refine ⟨(by show 2 ≤ sizeLine; decide), fun pL hpL => ?_⟩
  have sL := Same.new (o := .lst [V.int 3, V.int 1]) hpL
  refine ⟨_, rfl, pr, r0 :: rest, rfl, SqT.of (sL _ _ gr8), (by show 0 < rest.length + 1; omega), fun mx => ⟨_, _, rfl, rfl, .inr ⟨_, rfl, ?_⟩⟩⟩
  obtain ⟨tn, htn, htn3⟩ : ∃ tn : Int, atI [V.int 3, V.int 1] (if decide (mx > 9) = true then 1 else 0) = some (.int tn) ∧ (tn = 3 ∨ tn = 1) := by
    by_cases h : decide (mx > 9) = true
    · rw [if_pos h]; exact ⟨1, rfl, .inr rfl⟩
    · rw [if_neg h]; exact ⟨3, rfl, .inl rfl⟩
  refine ⟨pL, _, _, .int tn, rfl, rfl, SqL.of upd_same, htn, _, rfl, by omega, by omega, for_range (fun k σ H' => ∃ (z1 z2 z3 z4 : Option V), σ = [some (.ref a), some (.ref pr), some (.ref pm), some (.ref pc), some (.ref pd), z1, z2, z3, z4] ∧ Same H8 H') ⟨none, none, none, none, rfl, sL⟩ ?_ ?_⟩
  · rintro k σ H9 hk ⟨z1, z2, z3, z4, rfl, s9⟩
    have hk3 : k < 3 := by omega
    have l0 : 0 < ms.length := by rw [el2]; exact Nat.succ_pos _
    have lm : (ms.map V.int).length = ms.length := List.length_map _
    refine ⟨_, rfl, _, rfl, _, rfl, _, _, rfl, rfl, a, ns, _, rfl, keepS H9 (sH8.trans s9), hl, by omega, by omega, fun rA HA rA0 _ sA => ⟨_, rfl, pm, _, rfl, .inr (SqT.of ((s9.trans sA) _ _ gm8)), _, _, rfl, rfl, (by rw [lm]; omega), ?_⟩⟩
    obtain ⟨v, hv, hvm⟩ := atI_mem (xs := ms.map V.int) (r := rA % ((ms.map V.int).length : Int)) (Int.emod_nonneg _ (by rw [lm]; omega)) (Int.emod_lt_of_pos _ (by rw [lm]; omega))
    obtain ⟨wish, hwm, rfl⟩ := List.mem_map.mp hvm
    have s8A := s9.trans sA
    refine ⟨pm, _, _, _, rfl, rfl, SqT.of (s8A _ _ gm8), hv, ?_⟩
    refine ⟨_, rfl, _, rfl, pr, r0, rest, wish, rfl, fun H' s' => SqT.of (s' _ _ (s8A _ _ gr8)), hR, fun HB sB => ?_⟩
    have s8B := s8A.trans sB
    clear hv hvm sA s9
    have hwk := (mk0 wish).mp hwm
    have hwp := due_some.mp hwk
    dsimp only [gName]
    refine seq_key (fun σ' H' => σ' = [some (.ref a), some (.ref pr), some (.ref pm), some (.ref pc), some (.ref pd), some (.int (0 + (k : Int))), some (.int wish), some (.int ((dueS rest (wish - r0)).length : Int)), z4] ∧ Same HB H') ?_ ?_
    case refine_2 =>
      intro X' hX
      refine ⟨_, rfl, _, rfl, _, rfl, pd, _, rfl, .inl ⟨_, Sum.inl wish, .inl (s8B _ _ gd8), rfl, (valV_in ((fwd_mem r0 rest wish).mpr hwk)).symm⟩, rfl, _, rfl, iteNS (by rw [fwd_look, due_cnt]) ?_⟩
      exact ⟨_, rfl, _, rfl, pr, _, 0, .int r0, rfl, rfl, SqT.of (s8B _ _ gr8), at0, _, _, rfl, rfl, .inl ⟨by decide, by decide⟩, _, rfl, _, _, rfl, rfl, pr, r0, rest, _, rfl, fun H' s' => SqT.of (s' _ _ (s8B _ _ gr8)), hR, fun HC sC => ⟨_, rfl, rfl, _, rfl, iteNS (by rw [due_cnt, due_cnt, show 2 * r0 - wish - r0 = -(wish - r0) by omega, cnt_neg]) (hX _ _ ⟨rfl, sC⟩)⟩⟩
    rintro σ' HC ⟨rfl, sC⟩
    have s8C := s8B.trans sC
    refine seq_key (fun σ' H' => σ' = [some (.ref a), some (.ref pr), some (.ref pm), some (.ref pc), some (.ref pd), some (.int (0 + (k : Int))), some (.int wish), some (.int ((dueS rest (wish - r0)).length : Int)), z4] ∧ Same HC H') ?_ ?_
    case refine_2 =>
      intro X' hX
      exact ⟨_, rfl, _, rfl, _, rfl, _, rfl, _, rfl, _, rfl, a, pr, pc, ns, _, r0, rest, wish, ys, rfl, keepS HC (sH8.trans s8C), hl, ⟨by omega, by omega⟩, s8C _ _ gr8, hR, hwp, s8C _ _ gc8, L2.Paired.mapP py8 fun v x ⟨e, h1, h2⟩ => ⟨e, h1, rd_same s8C h2⟩, fun HD sD => ⟨_, rfl, iteF (hX _ _ ⟨rfl, sD⟩)⟩⟩
    rintro σ' HD ⟨rfl, sD⟩
    have s8D := s8C.trans sD
    have nM : ∀ x, x ∉ ms → (dueS rest (x - r0)).length = 0 := fun x hx => by
      by_cases h : 0 < (dueS rest (x - r0)).length
      · exact absurd ((mk0 x).mpr (due_some.mpr h)) hx
      · omega
    refine seq_key (fun σ' H' => σ' = [some (.ref a), some (.ref pr), some (.ref pm), some (.ref pc), some (.ref pd), some (.int (0 + (k : Int))), some (.int wish), some (.int ((dueS rest (wish - r0)).length : Int)), z4] ∧ Same HD H') ?_ ?_
    case refine_2 =>
      intro X' hX
      refine ⟨_, rfl, _, _, rfl, rfl, _, rfl, pm, _, rfl, .inr (SqT.of (s8D _ _ gm8)), rfl, flat_ints _, _, rfl, ?_⟩
      refine ite2 (fun c => ?_) (fun c => iteF (hX _ _ ⟨rfl, fun _ _ e => e⟩))
      have hx : wish + 1 ∉ ms := fun z => by rw [if_pos rfl, inV_int z] at c; cases c
      refine ⟨_, rfl, _, rfl, _, _, rfl, rfl, pr, r0, rest, wish + 1, rfl, fun H' s' => SqT.of (s' _ _ (s8D _ _ gr8)), hR, fun HE sE => ⟨rfl, _, rfl, iteNS (by rw [nM _ hx]; rfl) (hX _ _ ⟨rfl, sE⟩)⟩⟩
    rintro σ' HE ⟨rfl, sE⟩
    have s8E := s8D.trans sE
    have grE := s8E _ _ gr8
    refine ⟨_, rfl, pr, _, 0, .int r0, rfl, rfl, SqT.of grE, at0, ?_⟩
    refine ⟨_, rfl, _, rfl, (by show 1 ≤ sizeLine; decide), fun pt hpt => ?_⟩
    have st := Same.new (o := .tup [V.int r0]) hpt
    refine ⟨pr, pt, _, _, rfl, rfl, st _ _ grE, upd_same, by rw [List.length_map, List.length_cons]; show rest.length + 1 + 1 ≤ 1000000; omega, fun pp HF sF gp => ?_⟩
    have epp : (List.map V.int (r0 :: rest)) ++ [V.int r0] = (r0 :: (rest ++ [r0])).map V.int := by rw [List.map_cons, List.map_cons, List.map_append]; rfl
    rw [epp] at gp
    have hRo : RowS (rest ++ [r0]) := ⟨by rw [List.length_append]; show rest.length + 1 ≤ 39; omega, fun n hn => by rcases List.mem_append.mp hn with z | z; exact hR.2 n z; rw [List.mem_singleton.mp z]; exact hr0⟩
    refine ⟨_, rfl, pp, r0, rest ++ [r0], wish, rfl, fun H' s' => SqT.of (s' _ _ gp), hRo, fun HG sG => ?_⟩
    have sEG := st.trans (sF.trans sG)
    refine ⟨_, rfl, _, rfl, _, rfl, _, _, rfl, rfl, pr, r0, rest, _, rfl, fun H' s' => SqT.of (s' _ _ (sEG _ _ grE)), hR, fun HI sI => ?_⟩
    refine ⟨_, rfl, _, rfl, _, rfl, _, _, rfl, rfl, pr, r0, rest, _, rfl, fun H' s' => SqT.of (s' _ _ ((sEG.trans sI) _ _ grE)), hR, fun HJ sJ => ?_⟩
    refine ⟨_, _, rfl, rfl, rfl, _, rfl, iteNS (by rw [due_cnt, due_cnt, due_cnt, cnt_snoc, show wish - r0 - r0 = wish - r0 - r0 from rfl, show wish + r0 - r0 = wish - r0 + r0 by omega]) ?_⟩
    exact ⟨_, _, _, _, rfl, s8E.trans (sEG.trans (sI.trans sJ))⟩
  · rintro σ H9 ⟨z1, z2, z3, z4, rfl, s9⟩
    exact q _
end
end Law

set_option Elab.async false
set_option linter.all false
set_option maxRecDepth 100000
set_option maxHeartbeats 4000000
namespace Law
open PySem L2
theorem all_mk {l : PySem.W.OpenLaw} {w : World} {K : PySem.W.Frag} {h : Heap} {mg : Str → Option Value} {fa : Addr} (X : K.In h) (G : h.Ns mainGlobals mg) (hfa : mg "law" = some (.ref fa))
    {f_check_place : Addr} {od_check_place an_check_place : Option Addr} {sl_check_place : Array (Option Value)} {oc_check_place kV_check_place dc_check_place pm_check_place cd_check_place ct_check_place : Value}
    {f_sides_many : Addr} {od_sides_many an_sides_many : Option Addr} {sl_sides_many : Array (Option Value)} {oc_sides_many kV_sides_many dc_sides_many pm_sides_many cd_sides_many ct_sides_many : Value}
    {f_sides_at : Addr} {od_sides_at an_sides_at : Option Addr} {sl_sides_at : Array (Option Value)} {oc_sides_at kV_sides_at dc_sides_at pm_sides_at cd_sides_at ct_sides_at : Value}
    {f_sides_met : Addr} {od_sides_met an_sides_met : Option Addr} {sl_sides_met : Array (Option Value)} {oc_sides_met kV_sides_met dc_sides_met pm_sides_met cd_sides_met ct_sides_met : Value}
    {f_sums_behind : Addr} {od_sums_behind an_sums_behind : Option Addr} {sl_sums_behind : Array (Option Value)} {oc_sums_behind kV_sums_behind dc_sums_behind pm_sums_behind cd_sums_behind ct_sums_behind : Value}
    {f_with_either_sign : Addr} {od_with_either_sign an_with_either_sign : Option Addr} {sl_with_either_sign : Array (Option Value)} {oc_with_either_sign kV_with_either_sign dc_with_either_sign pm_with_either_sign cd_with_either_sign ct_with_either_sign : Value}
    {f_law_draw : Addr} {od_law_draw an_law_draw : Option Addr} {sl_law_draw : Array (Option Value)} {oc_law_draw kV_law_draw dc_law_draw pm_law_draw cd_law_draw ct_law_draw : Value}
    {f_law_worth : Addr} {od_law_worth an_law_worth : Option Addr} {sl_law_worth : Array (Option Value)} {oc_law_worth kV_law_worth dc_law_worth pm_law_worth cd_law_worth ct_law_worth : Value}
    {f_law_counts : Addr} {od_law_counts an_law_counts : Option Addr} {sl_law_counts : Array (Option Value)} {oc_law_counts kV_law_counts dc_law_counts pm_law_counts cd_law_counts ct_law_counts : Value}
    {f_law_ahead : Addr} {od_law_ahead an_law_ahead : Option Addr} {sl_law_ahead : Array (Option Value)} {oc_law_ahead kV_law_ahead dc_law_ahead pm_law_ahead cd_law_ahead ct_law_ahead : Value}
    {f_law_place : Addr} {od_law_place an_law_place : Option Addr} {sl_law_place : Array (Option Value)} {oc_law_place kV_law_place dc_law_place pm_law_place cd_law_place ct_law_place : Value}
    {f_law_refused : Addr} {od_law_refused an_law_refused : Option Addr} {sl_law_refused : Array (Option Value)} {oc_law_refused kV_law_refused dc_law_refused pm_law_refused cd_law_refused ct_law_refused : Value}
    {f_law_keys : Addr} {od_law_keys an_law_keys : Option Addr} {sl_law_keys : Array (Option Value)} {oc_law_keys kV_law_keys dc_law_keys pm_law_keys cd_law_keys ct_law_keys : Value}
    {f_law_row : Addr} {od_law_row an_law_row : Option Addr} {sl_law_row : Array (Option Value)} {oc_law_row kV_law_row dc_law_row pm_law_row cd_law_row ct_law_row : Value}
    {f_law_ways_right : Addr} {od_law_ways_right an_law_ways_right : Option Addr} {sl_law_ways_right : Array (Option Value)} {oc_law_ways_right kV_law_ways_right dc_law_ways_right pm_law_ways_right cd_law_ways_right ct_law_ways_right : Value}
    {f_law : Addr} {od_law an_law : Option Addr} {sl_law : Array (Option Value)} {oc_law kV_law dc_law pm_law cd_law ct_law : Value}
    {C_WishError N_WishError : Addr} {nm_WishError qn_WishError : Str} {bs_WishError sub_WishError : List Value} {sn_WishError : List Str} {ab_WishError : Bool} {col_WishError : Option Bool} {dd_WishError : Option Addr} {k0_WishError k1_WishError k2_WishError k3_WishError k5_WishError : Option Value}
    {C_NoText N_NoText : Addr} {nm_NoText qn_NoText : Str} {bs_NoText sub_NoText : List Value} {sn_NoText : List Str} {ab_NoText : Bool} {col_NoText : Option Bool} {dd_NoText : Option Addr} {k0_NoText k1_NoText k2_NoText k3_NoText k5_NoText : Option Value} {bm_NoText : List Value}
    {C_NoAsk N_NoAsk : Addr} {nm_NoAsk qn_NoAsk : Str} {bs_NoAsk sub_NoAsk : List Value} {sn_NoAsk : List Str} {ab_NoAsk : Bool} {col_NoAsk : Option Bool} {dd_NoAsk : Option Addr} {k0_NoAsk k1_NoAsk k2_NoAsk k3_NoAsk k5_NoAsk : Option Value} {bm_NoAsk : List Value}
    {C_NoWay N_NoWay : Addr} {nm_NoWay qn_NoWay : Str} {bs_NoWay sub_NoWay : List Value} {sn_NoWay : List Str} {ab_NoWay : Bool} {col_NoWay : Option Bool} {dd_NoWay : Option Addr} {k0_NoWay k1_NoWay k2_NoWay k3_NoWay k5_NoWay : Option Value} {bm_NoWay : List Value}
    {f_init : Addr}
    {od_init an_init : Option Addr} {sl_init : Array (Option Value)} {oc_init kV_init dc_init pm_init cd_init ct_init : Value}
    (a_check_place : PySem.W.nsIn K mainGlobals "check_place" = some (some (.ref f_check_place))) (l_check_place : K.lookup f_check_place = some ⟨oc_check_place, od_check_place, .func (PySem.W.fnOf "check_place" "check_place" (defArgs s_check_place) (defBody s_check_place) (defScope s_check_place) .none kV_check_place dc_check_place pm_check_place an_check_place cd_check_place ct_check_place), sl_check_place⟩) (c_check_place : PySem.W.codeIn K cd_check_place "check_place" = true) (k_check_place : PySem.W.keepIn K (.ref f_check_place) = true)
    (a_sides_many : PySem.W.nsIn K mainGlobals "sides_many" = some (some (.ref f_sides_many))) (l_sides_many : K.lookup f_sides_many = some ⟨oc_sides_many, od_sides_many, .func (PySem.W.fnOf "sides_many" "sides_many" (defArgs s_sides_many) (defBody s_sides_many) (defScope s_sides_many) .none kV_sides_many dc_sides_many pm_sides_many an_sides_many cd_sides_many ct_sides_many), sl_sides_many⟩) (c_sides_many : PySem.W.codeIn K cd_sides_many "sides_many" = true) (k_sides_many : PySem.W.keepIn K (.ref f_sides_many) = true)
    (a_sides_at : PySem.W.nsIn K mainGlobals "sides_at" = some (some (.ref f_sides_at))) (l_sides_at : K.lookup f_sides_at = some ⟨oc_sides_at, od_sides_at, .func (PySem.W.fnOf "sides_at" "sides_at" (defArgs s_sides_at) (defBody s_sides_at) (defScope s_sides_at) .none kV_sides_at dc_sides_at pm_sides_at an_sides_at cd_sides_at ct_sides_at), sl_sides_at⟩) (c_sides_at : PySem.W.codeIn K cd_sides_at "sides_at" = true) (k_sides_at : PySem.W.keepIn K (.ref f_sides_at) = true)
    (a_sides_met : PySem.W.nsIn K mainGlobals "sides_met" = some (some (.ref f_sides_met))) (l_sides_met : K.lookup f_sides_met = some ⟨oc_sides_met, od_sides_met, .func (PySem.W.fnOf "sides_met" "sides_met" (defArgs s_sides_met) (defBody s_sides_met) (defScope s_sides_met) .none kV_sides_met dc_sides_met pm_sides_met an_sides_met cd_sides_met ct_sides_met), sl_sides_met⟩) (c_sides_met : PySem.W.codeIn K cd_sides_met "sides_met" = true) (k_sides_met : PySem.W.keepIn K (.ref f_sides_met) = true)
    (a_sums_behind : PySem.W.nsIn K mainGlobals "sums_behind" = some (some (.ref f_sums_behind))) (l_sums_behind : K.lookup f_sums_behind = some ⟨oc_sums_behind, od_sums_behind, .func (PySem.W.fnOf "sums_behind" "sums_behind" (defArgs s_sums_behind) (defBody s_sums_behind) (defScope s_sums_behind) .none kV_sums_behind dc_sums_behind pm_sums_behind an_sums_behind cd_sums_behind ct_sums_behind), sl_sums_behind⟩) (c_sums_behind : PySem.W.codeIn K cd_sums_behind "sums_behind" = true) (k_sums_behind : PySem.W.keepIn K (.ref f_sums_behind) = true)
    (a_with_either_sign : PySem.W.nsIn K mainGlobals "with_either_sign" = some (some (.ref f_with_either_sign))) (l_with_either_sign : K.lookup f_with_either_sign = some ⟨oc_with_either_sign, od_with_either_sign, .func (PySem.W.fnOf "with_either_sign" "with_either_sign" (defArgs s_with_either_sign) (defBody s_with_either_sign) (defScope s_with_either_sign) .none kV_with_either_sign dc_with_either_sign pm_with_either_sign an_with_either_sign cd_with_either_sign ct_with_either_sign), sl_with_either_sign⟩) (c_with_either_sign : PySem.W.codeIn K cd_with_either_sign "with_either_sign" = true) (k_with_either_sign : PySem.W.keepIn K (.ref f_with_either_sign) = true)
    (a_law_draw : PySem.W.nsIn K mainGlobals "_law_draw" = some (some (.ref f_law_draw))) (l_law_draw : K.lookup f_law_draw = some ⟨oc_law_draw, od_law_draw, .func (PySem.W.fnOf "_law_draw" "_law_draw" (defArgs s_law_draw) (defBody s_law_draw) (defScope s_law_draw) .none kV_law_draw dc_law_draw pm_law_draw an_law_draw cd_law_draw ct_law_draw), sl_law_draw⟩) (c_law_draw : PySem.W.codeIn K cd_law_draw "_law_draw" = true) (k_law_draw : PySem.W.keepIn K (.ref f_law_draw) = true)
    (a_law_worth : PySem.W.nsIn K mainGlobals "_law_worth" = some (some (.ref f_law_worth))) (l_law_worth : K.lookup f_law_worth = some ⟨oc_law_worth, od_law_worth, .func (PySem.W.fnOf "_law_worth" "_law_worth" (defArgs s_law_worth) (defBody s_law_worth) (defScope s_law_worth) .none kV_law_worth dc_law_worth pm_law_worth an_law_worth cd_law_worth ct_law_worth), sl_law_worth⟩) (c_law_worth : PySem.W.codeIn K cd_law_worth "_law_worth" = true) (k_law_worth : PySem.W.keepIn K (.ref f_law_worth) = true)
    (a_law_counts : PySem.W.nsIn K mainGlobals "_law_counts" = some (some (.ref f_law_counts))) (l_law_counts : K.lookup f_law_counts = some ⟨oc_law_counts, od_law_counts, .func (PySem.W.fnOf "_law_counts" "_law_counts" (defArgs s_law_counts) (defBody s_law_counts) (defScope s_law_counts) .none kV_law_counts dc_law_counts pm_law_counts an_law_counts cd_law_counts ct_law_counts), sl_law_counts⟩) (c_law_counts : PySem.W.codeIn K cd_law_counts "_law_counts" = true) (k_law_counts : PySem.W.keepIn K (.ref f_law_counts) = true)
    (a_law_ahead : PySem.W.nsIn K mainGlobals "_law_ahead" = some (some (.ref f_law_ahead))) (l_law_ahead : K.lookup f_law_ahead = some ⟨oc_law_ahead, od_law_ahead, .func (PySem.W.fnOf "_law_ahead" "_law_ahead" (defArgs s_law_ahead) (defBody s_law_ahead) (defScope s_law_ahead) .none kV_law_ahead dc_law_ahead pm_law_ahead an_law_ahead cd_law_ahead ct_law_ahead), sl_law_ahead⟩) (c_law_ahead : PySem.W.codeIn K cd_law_ahead "_law_ahead" = true) (k_law_ahead : PySem.W.keepIn K (.ref f_law_ahead) = true)
    (a_law_place : PySem.W.nsIn K mainGlobals "_law_place" = some (some (.ref f_law_place))) (l_law_place : K.lookup f_law_place = some ⟨oc_law_place, od_law_place, .func (PySem.W.fnOf "_law_place" "_law_place" (defArgs s_law_place) (defBody s_law_place) (defScope s_law_place) .none kV_law_place dc_law_place pm_law_place an_law_place cd_law_place ct_law_place), sl_law_place⟩) (c_law_place : PySem.W.codeIn K cd_law_place "_law_place" = true) (k_law_place : PySem.W.keepIn K (.ref f_law_place) = true)
    (a_law_refused : PySem.W.nsIn K mainGlobals "_law_refused" = some (some (.ref f_law_refused))) (l_law_refused : K.lookup f_law_refused = some ⟨oc_law_refused, od_law_refused, .func (PySem.W.fnOf "_law_refused" "_law_refused" (defArgs s_law_refused) (defBody s_law_refused) (defScope s_law_refused) .none kV_law_refused dc_law_refused pm_law_refused an_law_refused cd_law_refused ct_law_refused), sl_law_refused⟩) (c_law_refused : PySem.W.codeIn K cd_law_refused "_law_refused" = true) (k_law_refused : PySem.W.keepIn K (.ref f_law_refused) = true)
    (a_law_keys : PySem.W.nsIn K mainGlobals "_law_keys" = some (some (.ref f_law_keys))) (l_law_keys : K.lookup f_law_keys = some ⟨oc_law_keys, od_law_keys, .func (PySem.W.fnOf "_law_keys" "_law_keys" (defArgs s_law_keys) (defBody s_law_keys) (defScope s_law_keys) .none kV_law_keys dc_law_keys pm_law_keys an_law_keys cd_law_keys ct_law_keys), sl_law_keys⟩) (c_law_keys : PySem.W.codeIn K cd_law_keys "_law_keys" = true) (k_law_keys : PySem.W.keepIn K (.ref f_law_keys) = true)
    (a_law_row : PySem.W.nsIn K mainGlobals "_law_row" = some (some (.ref f_law_row))) (l_law_row : K.lookup f_law_row = some ⟨oc_law_row, od_law_row, .func (PySem.W.fnOf "_law_row" "_law_row" (defArgs s_law_row) (defBody s_law_row) (defScope s_law_row) .none kV_law_row dc_law_row pm_law_row an_law_row cd_law_row ct_law_row), sl_law_row⟩) (c_law_row : PySem.W.codeIn K cd_law_row "_law_row" = true) (k_law_row : PySem.W.keepIn K (.ref f_law_row) = true)
    (a_law_ways_right : PySem.W.nsIn K mainGlobals "_law_ways_right" = some (some (.ref f_law_ways_right))) (l_law_ways_right : K.lookup f_law_ways_right = some ⟨oc_law_ways_right, od_law_ways_right, .func (PySem.W.fnOf "_law_ways_right" "_law_ways_right" (defArgs s_law_ways_right) (defBody s_law_ways_right) (defScope s_law_ways_right) .none kV_law_ways_right dc_law_ways_right pm_law_ways_right an_law_ways_right cd_law_ways_right ct_law_ways_right), sl_law_ways_right⟩) (c_law_ways_right : PySem.W.codeIn K cd_law_ways_right "_law_ways_right" = true) (k_law_ways_right : PySem.W.keepIn K (.ref f_law_ways_right) = true)
    (a_law : PySem.W.nsIn K mainGlobals "law" = some (some (.ref f_law))) (l_law : K.lookup f_law = some ⟨oc_law, od_law, .func (PySem.W.fnOf "law" "law" (defArgs s_law) (defBody s_law) (defScope s_law) .none kV_law dc_law pm_law an_law cd_law ct_law), sl_law⟩) (c_law : PySem.W.codeIn K cd_law "law" = true) (k_law : PySem.W.keepIn K (.ref f_law) = true)
    (a_WishError : PySem.W.nsIn K mainGlobals "WishError" = some (some (.ref C_WishError)))
    (l_WishError : K.lookup C_WishError = some (excClassObj nm_WishError qn_WishError C_WishError N_WishError bs_WishError vMro true sn_WishError sub_WishError ab_WishError col_WishError dd_WishError k0_WishError k1_WishError k2_WishError k3_WishError k5_WishError "ValueError.__new__"))
    (t_WishError : PySem.W.tailIn K vMro vMro = true)
    (kp_WishError : PySem.W.keepIn K (.ref C_WishError) = true)
    (ga_WishError : PySem.W.findIn K (.ref C_WishError) "__getattribute__" = some (some (.builtin "BaseException.__getattribute__")))
    (gh_WishError : PySem.W.findIn K (.ref C_WishError) "__getattr__" = some none)
    (gc_WishError : PySem.W.findIn K (.ref C_WishError) "__class__" = some (some (.builtin "object.__class__")))
    (sa_WishError : PySem.W.findIn K (.ref C_WishError) "__setattr__" = some (some (.builtin "object.__setattr__")))
    (a_NoText : PySem.W.nsIn K mainGlobals "NoText" = some (some (.ref C_NoText)))
    (l_NoText : K.lookup C_NoText = some (excClassObj nm_NoText qn_NoText C_NoText N_NoText bs_NoText bm_NoText true sn_NoText sub_NoText ab_NoText col_NoText dd_NoText k0_NoText k1_NoText k2_NoText k3_NoText k5_NoText "ValueError.__new__"))
    (t_NoText : PySem.W.tailIn K vMro bm_NoText = true)
    (kp_NoText : PySem.W.keepIn K (.ref C_NoText) = true)
    (ga_NoText : PySem.W.findIn K (.ref C_NoText) "__getattribute__" = some (some (.builtin "BaseException.__getattribute__")))
    (gh_NoText : PySem.W.findIn K (.ref C_NoText) "__getattr__" = some none)
    (gc_NoText : PySem.W.findIn K (.ref C_NoText) "__class__" = some (some (.builtin "object.__class__")))
    (sa_NoText : PySem.W.findIn K (.ref C_NoText) "__setattr__" = some (some (.builtin "object.__setattr__")))
    (a_NoAsk : PySem.W.nsIn K mainGlobals "NoAsk" = some (some (.ref C_NoAsk)))
    (l_NoAsk : K.lookup C_NoAsk = some (excClassObj nm_NoAsk qn_NoAsk C_NoAsk N_NoAsk bs_NoAsk bm_NoAsk true sn_NoAsk sub_NoAsk ab_NoAsk col_NoAsk dd_NoAsk k0_NoAsk k1_NoAsk k2_NoAsk k3_NoAsk k5_NoAsk "ValueError.__new__"))
    (t_NoAsk : PySem.W.tailIn K vMro bm_NoAsk = true)
    (kp_NoAsk : PySem.W.keepIn K (.ref C_NoAsk) = true)
    (ga_NoAsk : PySem.W.findIn K (.ref C_NoAsk) "__getattribute__" = some (some (.builtin "BaseException.__getattribute__")))
    (gh_NoAsk : PySem.W.findIn K (.ref C_NoAsk) "__getattr__" = some none)
    (gc_NoAsk : PySem.W.findIn K (.ref C_NoAsk) "__class__" = some (some (.builtin "object.__class__")))
    (sa_NoAsk : PySem.W.findIn K (.ref C_NoAsk) "__setattr__" = some (some (.builtin "object.__setattr__")))
    (a_NoWay : PySem.W.nsIn K mainGlobals "NoWay" = some (some (.ref C_NoWay)))
    (l_NoWay : K.lookup C_NoWay = some (excClassObj nm_NoWay qn_NoWay C_NoWay N_NoWay bs_NoWay bm_NoWay true sn_NoWay sub_NoWay ab_NoWay col_NoWay dd_NoWay k0_NoWay k1_NoWay k2_NoWay k3_NoWay k5_NoWay "ValueError.__new__"))
    (t_NoWay : PySem.W.tailIn K vMro bm_NoWay = true)
    (kp_NoWay : PySem.W.keepIn K (.ref C_NoWay) = true)
    (ga_NoWay : PySem.W.findIn K (.ref C_NoWay) "__getattribute__" = some (some (.builtin "BaseException.__getattribute__")))
    (gh_NoWay : PySem.W.findIn K (.ref C_NoWay) "__getattr__" = some none)
    (gc_NoWay : PySem.W.findIn K (.ref C_NoWay) "__class__" = some (some (.builtin "object.__class__")))
    (sa_NoWay : PySem.W.findIn K (.ref C_NoWay) "__setattr__" = some (some (.builtin "object.__setattr__")))
    (i_NoText : PySem.W.findIn K (.ref C_NoText) "__init__" = some (some (.builtin "ValueError.__init__")))
    (i_NoAsk : PySem.W.findIn K (.ref C_NoAsk) "__init__" = some (some (.builtin "ValueError.__init__")))
    (i_NoWay : PySem.W.findIn K (.ref C_NoWay) "__init__" = some (some (.ref f_init)))
    (y_init : PySem.W.typeIn K (.ref f_init) = some (.type "function"))
    (l_init : K.lookup f_init = some ⟨oc_init, od_init, .func (PySem.W.fnOf "__init__" "NoWay.__init__" (defArgs s_init) (defBody s_init) (defScope s_init) .none kV_init dc_init pm_init an_init cd_init ct_init), sl_init⟩)
    (cd_ok_init : PySem.W.codeIn K cd_init "NoWay.__init__" = true)
    (k_init : PySem.W.keepIn K (.ref f_init) = true)
    (w_NoWay : PySem.W.findIn K (.ref C_NoWay) "word" = some none)
    (n_W : (Value.ref C_NoWay :: bm_NoWay).contains (.ref C_WishError) = true)
    (n_T : (Value.ref C_NoWay :: bm_NoWay).contains (.ref C_NoText) = false)
    (n_S : (Value.ref C_NoWay :: bm_NoWay).contains (.ref C_NoAsk) = false)
    (t_W : (Value.ref C_NoText :: bm_NoText).contains (.ref C_WishError) = true)
    (t_S : (Value.ref C_NoText :: bm_NoText).contains (.ref C_NoAsk) = false)
    (t_N : (Value.ref C_NoText :: bm_NoText).contains (.ref C_NoWay) = false)
    (s_W : (Value.ref C_NoAsk :: bm_NoAsk).contains (.ref C_WishError) = true)
    (s_T : (Value.ref C_NoAsk :: bm_NoAsk).contains (.ref C_NoText) = false)
    (s_N : (Value.ref C_NoAsk :: bm_NoAsk).contains (.ref C_NoWay) = false)
    (z_ValueError : PySem.W.nsIn K mainGlobals "ValueError" = some none)
    (z_max : PySem.W.nsIn K mainGlobals "max" = some none)
    (z_min : PySem.W.nsIn K mainGlobals "min" = some none)
    (z_list : PySem.W.nsIn K mainGlobals "list" = some none)
    (z_sorted : PySem.W.nsIn K mainGlobals "sorted" = some none)
    (z_set : PySem.W.nsIn K mainGlobals "set" = some none)
    (z_len : PySem.W.nsIn K mainGlobals "len" = some none)
    (z_sum : PySem.W.nsIn K mainGlobals "sum" = some none)
    (z_range : PySem.W.nsIn K mainGlobals "range" = some none)
    (z_isinstance : PySem.W.nsIn K mainGlobals "isinstance" = some none)
    (z_int : PySem.W.nsIn K mainGlobals "int" = some none)
    (z_str : PySem.W.nsIn K mainGlobals "str" = some none)
    (z_bool : PySem.W.nsIn K mainGlobals "bool" = some none)
    (z_tuple : PySem.W.nsIn K mainGlobals "tuple" = some none)
    (z_zip : PySem.W.nsIn K mainGlobals "zip" = some none) :
    ∃ fd : FuncData, (∀ (s : Shared) (v : Value), BindsTo s fd ⟨[v], []⟩ [("script", v)]) ∧ ∀ base : Heap, K.In base → base.Ns mainGlobals mg → FnOk l.prog w K mg base CX0 30 fa fd ["script"] (spLaw K) := by
  have e := hfa.symm.trans (PySem.W.mg_of X G a_law)
  cases e
  have F_check_place := fun_mk (st := s_check_place) l_check_place c_check_place k_check_place
  have b_check_place := F_check_place.binds (ps := ["place", "many"]) fun _ _ _ _ _ _ us hl => match us, hl with | [_, _], _ => rfl
  have m_check_place := PySem.W.mg_of X G a_check_place
  have F_sides_many := fun_mk (st := s_sides_many) l_sides_many c_sides_many k_sides_many
  have b_sides_many := F_sides_many.binds (ps := ["row", "wish"]) fun _ _ _ _ _ _ us hl => match us, hl with | [_, _], _ => rfl
  have m_sides_many := PySem.W.mg_of X G a_sides_many
  have F_sides_at := fun_mk (st := s_sides_at) l_sides_at c_sides_at k_sides_at
  have b_sides_at := F_sides_at.binds (ps := ["row", "wish", "place"]) fun _ _ _ _ _ _ us hl => match us, hl with | [_, _, _], _ => rfl
  have m_sides_at := PySem.W.mg_of X G a_sides_at
  have F_sides_met := fun_mk (st := s_sides_met) l_sides_met c_sides_met k_sides_met
  have b_sides_met := F_sides_met.binds (ps := ["row"]) fun _ _ _ _ _ _ us hl => match us, hl with | [_], _ => rfl
  have m_sides_met := PySem.W.mg_of X G a_sides_met
  have F_sums_behind := fun_mk (st := s_sums_behind) l_sums_behind c_sums_behind k_sums_behind
  have b_sums_behind := F_sums_behind.binds (ps := ["row"]) fun _ _ _ _ _ _ us hl => match us, hl with | [_], _ => rfl
  have m_sums_behind := PySem.W.mg_of X G a_sums_behind
  have F_with_either_sign := fun_mk (st := s_with_either_sign) l_with_either_sign c_with_either_sign k_with_either_sign
  have b_with_either_sign := F_with_either_sign.binds (ps := ["many", "number"]) fun _ _ _ _ _ _ us hl => match us, hl with | [_, _], _ => rfl
  have m_with_either_sign := PySem.W.mg_of X G a_with_either_sign
  have F_law_draw := fun_mk (st := s_law_draw) l_law_draw c_law_draw k_law_draw
  have b_law_draw := F_law_draw.binds (ps := ["script", "k"]) fun _ _ _ _ _ _ us hl => match us, hl with | [_, _], _ => rfl
  have m_law_draw := PySem.W.mg_of X G a_law_draw
  have F_law_worth := fun_mk (st := s_law_worth) l_law_worth c_law_worth k_law_worth
  have b_law_worth := F_law_worth.binds (ps := ["row", "signs"]) fun _ _ _ _ _ _ us hl => match us, hl with | [_, _], _ => rfl
  have m_law_worth := PySem.W.mg_of X G a_law_worth
  have F_law_counts := fun_mk (st := s_law_counts) l_law_counts c_law_counts k_law_counts
  have b_law_counts := F_law_counts.binds (ps := ["row"]) fun _ _ _ _ _ _ us hl => match us, hl with | [_], _ => rfl
  have m_law_counts := PySem.W.mg_of X G a_law_counts
  have F_law_ahead := fun_mk (st := s_law_ahead) l_law_ahead c_law_ahead k_law_ahead
  have b_law_ahead := F_law_ahead.binds (ps := ["row"]) fun _ _ _ _ _ _ us hl => match us, hl with | [_], _ => rfl
  have m_law_ahead := PySem.W.mg_of X G a_law_ahead
  have F_law_place := fun_mk (st := s_law_place) l_law_place c_law_place k_law_place
  have b_law_place := F_law_place.binds (ps := ["row", "signs", "counts"]) fun _ _ _ _ _ _ us hl => match us, hl with | [_, _, _], _ => rfl
  have m_law_place := PySem.W.mg_of X G a_law_place
  have F_law_refused := fun_mk (st := s_law_refused) l_law_refused c_law_refused k_law_refused
  have b_law_refused := F_law_refused.binds (ps := ["row", "wish", "place"]) fun _ _ _ _ _ _ us hl => match us, hl with | [_, _, _], _ => rfl
  have m_law_refused := PySem.W.mg_of X G a_law_refused
  have F_law_keys := fun_mk (st := s_law_keys) l_law_keys c_law_keys k_law_keys
  have b_law_keys := F_law_keys.binds (ps := ["signs"]) fun _ _ _ _ _ _ us hl => match us, hl with | [_], _ => rfl
  have m_law_keys := PySem.W.mg_of X G a_law_keys
  have F_law_row := fun_mk (st := s_law_row) l_law_row c_law_row k_law_row
  have b_law_row := F_law_row.binds (ps := ["script"]) fun _ _ _ _ _ _ us hl => match us, hl with | [_], _ => rfl
  have m_law_row := PySem.W.mg_of X G a_law_row
  have F_law_ways_right := fun_mk (st := s_law_ways_right) l_law_ways_right c_law_ways_right k_law_ways_right
  have b_law_ways_right := F_law_ways_right.binds (ps := ["script", "turn", "row", "wish", "ways", "later"]) fun _ _ _ _ _ _ us hl => match us, hl with | [_, _, _, _, _, _], _ => rfl
  have m_law_ways_right := PySem.W.mg_of X G a_law_ways_right
  have F_law := fun_mk (st := s_law) l_law c_law k_law
  have b_law := F_law.binds (ps := ["script"]) fun _ _ _ _ _ _ us hl => match us, hl with | [_], _ => rfl
  have m_law := PySem.W.mg_of X G a_law
  have B : Blt mg := ⟨PySem.W.mg_none_of X G z_len, PySem.W.mg_none_of X G z_sum, PySem.W.mg_none_of X G z_range, PySem.W.mg_none_of X G z_isinstance, PySem.W.mg_none_of X G z_int, PySem.W.mg_none_of X G z_str, PySem.W.mg_none_of X G z_bool, PySem.W.mg_none_of X G z_tuple, PySem.W.mg_none_of X G z_zip⟩
  refine ⟨PySem.W.fnOf "law" "law" (defArgs s_law) (defBody s_law) (defScope s_law) .none kV_law dc_law pm_law an_law cd_law ct_law, fun s v => .of_eq rfl, fun base _ _ => ?_⟩
  have c_WishError : XC K C_WishError vMro := ⟨⟨_, _, _, _, _, _, _, _, _, _, _, _, _, _, l_WishError⟩, t_WishError, kp_WishError, ga_WishError, gh_WishError, gc_WishError, sa_WishError⟩
  have c_NoText : XC K C_NoText bm_NoText := ⟨⟨_, _, _, _, _, _, _, _, _, _, _, _, _, _, l_NoText⟩, t_NoText, kp_NoText, ga_NoText, gh_NoText, gc_NoText, sa_NoText⟩
  have c_NoAsk : XC K C_NoAsk bm_NoAsk := ⟨⟨_, _, _, _, _, _, _, _, _, _, _, _, _, _, l_NoAsk⟩, t_NoAsk, kp_NoAsk, ga_NoAsk, gh_NoAsk, gc_NoAsk, sa_NoAsk⟩
  have c_NoWay : XC K C_NoWay bm_NoWay := ⟨⟨_, _, _, _, _, _, _, _, _, _, _, _, _, _, l_NoWay⟩, t_NoWay, kp_NoWay, ga_NoWay, gh_NoWay, gc_NoWay, sa_NoWay⟩
  have F_init := fun_mk (st := s_init) l_init cd_ok_init k_init
  have b_init := F_init.binds (ps := ["self", "word"]) fun _ _ _ _ _ _ us hl => match us, hl with | [_, _], _ => rfl
  have R : Refs l.prog w K mg base C_WishError C_NoText C_NoAsk C_NoWay bm_NoText bm_NoAsk bm_NoWay :=
    ⟨c_WishError, c_NoText, c_NoAsk, c_NoWay, PySem.W.mg_of X G a_WishError, PySem.W.mg_of X G a_NoText, PySem.W.mg_of X G a_NoAsk, PySem.W.mg_of X G a_NoWay, i_NoText, i_NoAsk, ⟨f_init, _, _, i_NoWay, y_init, ok_init F_init c_NoWay w_NoWay, b_init⟩, w_NoWay, n_W, n_T, n_S, t_W, t_S, t_N, s_W, s_T, s_N⟩
  have Bmax : mg "max" = none := PySem.W.mg_none_of X G z_max
  have Bmin : mg "min" = none := PySem.W.mg_none_of X G z_min
  have Blist : mg "list" = none := PySem.W.mg_none_of X G z_list
  have Bsorted := PySem.W.mg_none_of X G z_sorted
  have Bset := PySem.W.mg_none_of X G z_set
  have Gwes := mkDef (ok_wes (P := l.prog) (w := w) (mg := mg) (base := base) F_with_either_sign) b_with_either_sign m_with_either_sign k_with_either_sign
  have Gsb := mkDef (ok_sb F_sums_behind Gwes) b_sums_behind m_sums_behind k_sums_behind
  have Gmany := mkDef (ok_many F_sides_many B Gsb) b_sides_many m_sides_many k_sides_many
  have Gmet := mkDef (ok_met F_sides_met B Bsorted Gsb) b_sides_met m_sides_met k_sides_met
  have Gcheck := mkDef (ok_check F_check_place R) b_check_place m_check_place k_check_place
  have oat := okX_at F_sides_at B Gsb Gcheck
  have GatX := mkDef oat b_sides_at m_sides_at k_sides_at
  have Gat := mkDef (ok_at oat) b_sides_at m_sides_at k_sides_at
  have Gdraw := mkDef (ok_draw (P := l.prog) (w := w) (base := base) F_law_draw B Bmax Bmin Blist) b_law_draw m_law_draw k_law_draw
  have Glw := mkDef (ok_lw (P := l.prog) (w := w) (base := base) F_law_worth B) b_law_worth m_law_worth k_law_worth
  have Gcnt := mkDef (ok_cnt (P := l.prog) (w := w) (base := base) F_law_counts B) b_law_counts m_law_counts k_law_counts
  have Gahead := mkDef (ok_ahead (P := l.prog) (w := w) (base := base) F_law_ahead B) b_law_ahead m_law_ahead k_law_ahead
  have Gplace := mkDef (ok_place F_law_place B Glw) b_law_place m_law_place k_law_place
  have Gkeys := mkDef (ok_keys (P := l.prog) (w := w) (base := base) F_law_keys B) b_law_keys m_law_keys k_law_keys
  have Grow := mkDef (ok_row F_law_row B Gdraw) b_law_row m_law_row k_law_row
  have Gref := mkDef (ok_ref F_law_refused B R GatX (PySem.W.mg_none_of X G z_ValueError)) b_law_refused m_law_refused k_law_refused
  have Gwr := mkDef (ok_wr F_law_ways_right B Bsorted Bset Gdraw Gat Glw Gplace Gkeys Gref) b_law_ways_right m_law_ways_right k_law_ways_right
  exact ok_law F_law B Bmax Blist Bsorted Bset Gdraw Grow Gmet Gmany Gahead Gcnt Gwr
theorem walk {l : PySem.W.OpenLaw} {q : Program} {loose : List Str} {XP : (Str → Option Value) → Heap → Prop} {YP : World → Heap → Prop} {d : DefRec} {K : Params → PySem.W.Frag} (hn : l.most = some 63) (hdf : d.params.defaults = [])
    (hY : ∀ (w : World) (h : Heap), YP w h → (K w.params).In h)
    (F : ∀ (w : World) (mg : Str → Option Value) (fa : Addr) (h : Heap), (K w.params).In h → h.Ns mainGlobals mg → mg d.name = some (.ref fa) →
      ∃ fd : FuncData, (∀ (s : Shared) (u : Value), BindsTo s fd ⟨[u], []⟩ [("script", u)]) ∧ ∀ base : Heap, (K w.params).In base → base.Ns mainGlobals mg → FnOk l.prog w (K w.params) mg base CX0 30 fa fd ["script"] (spLaw (K w.params))) :
    PySem.W.WalkO q loose XP YP l.row.toRowW d [] (fun f vs => PySem.call f vs) :=
  L2.walk_of (n := 63) (k := 30) (x := "script") (CX := fun _ => CX0) (sp := fun w => spLaw (K w.params)) hn (by decide) hdf ⟨rfl, by decide, by decide⟩ hY F (fun _ _ a ns hl _ hS => ⟨a, ns, rfl, hS, hl, fun _ => rfl⟩) fun _ _ _ _ _ z => z
end Law
open PySem PySem.W PyProof.Rows
set_option maxRecDepth 100000 in
set_option maxHeartbeats 0 in
theorem PySem.Challenge.cw_ledtowish_k32_whole_long_rows_of_sides_holds : PySem.Challenge.rw_ledtowish_k32_whole_long_rows_of_sides.Holds := by
  w_on; o_law; k_head; (case hw => w_witness2)
  k_fill
  refine Law.walk (l := PySem.Challenge.rw_ledtowish_k32_whole_long_rows_of_sides) rfl rfl (fun w h Y => PySem.W.kIn_of Y) ?F
  case F =>
    intro w mg fa h KX G hmg
    refine' Law.all_mk KX G hmg ?a_check_place ?l_check_place ?c_check_place ?k_check_place ?a_sides_many ?l_sides_many ?c_sides_many ?k_sides_many ?a_sides_at ?l_sides_at ?c_sides_at ?k_sides_at ?a_sides_met ?l_sides_met ?c_sides_met ?k_sides_met ?a_sums_behind ?l_sums_behind ?c_sums_behind ?k_sums_behind ?a_with_either_sign ?l_with_either_sign ?c_with_either_sign ?k_with_either_sign ?a_law_draw ?l_law_draw ?c_law_draw ?k_law_draw ?a_law_worth ?l_law_worth ?c_law_worth ?k_law_worth ?a_law_counts ?l_law_counts ?c_law_counts ?k_law_counts ?a_law_ahead ?l_law_ahead ?c_law_ahead ?k_law_ahead ?a_law_place ?l_law_place ?c_law_place ?k_law_place ?a_law_refused ?l_law_refused ?c_law_refused ?k_law_refused ?a_law_keys ?l_law_keys ?c_law_keys ?k_law_keys ?a_law_row ?l_law_row ?c_law_row ?k_law_row ?a_law_ways_right ?l_law_ways_right ?c_law_ways_right ?k_law_ways_right ?a_law ?l_law ?c_law ?k_law ?a_WishError ?l_WishError ?t_WishError ?kp_WishError ?ga_WishError ?gh_WishError ?gc_WishError ?sa_WishError ?a_NoText ?l_NoText ?t_NoText ?kp_NoText ?ga_NoText ?gh_NoText ?gc_NoText ?sa_NoText ?a_NoAsk ?l_NoAsk ?t_NoAsk ?kp_NoAsk ?ga_NoAsk ?gh_NoAsk ?gc_NoAsk ?sa_NoAsk ?a_NoWay ?l_NoWay ?t_NoWay ?kp_NoWay ?ga_NoWay ?gh_NoWay ?gc_NoWay ?sa_NoWay ?i_NoText ?i_NoAsk ?i_NoWay ?y_init ?l_init ?cd_ok_init ?k_init ?w_NoWay ?n_W ?n_T ?n_S ?t_W ?t_S ?t_N ?s_W ?s_T ?s_N ?z_ValueError ?z_max ?z_min ?z_list ?z_sorted ?z_set ?z_len ?z_sum ?z_range ?z_isinstance ?z_int ?z_str ?z_bool ?z_tuple ?z_zip
    (case a_check_place => k_is)
    (case l_check_place => k_is)
    (case c_check_place => k_is)
    (case k_check_place => k_is)
    (case a_sides_many => k_is)
    (case l_sides_many => k_is)
    (case c_sides_many => k_is)
    (case k_sides_many => k_is)
    (case a_sides_at => k_is)
    (case l_sides_at => k_is)
    (case c_sides_at => k_is)
    (case k_sides_at => k_is)
    (case a_sides_met => k_is)
    (case l_sides_met => k_is)
    (case c_sides_met => k_is)
    (case k_sides_met => k_is)
    (case a_sums_behind => k_is)
    (case l_sums_behind => k_is)
    (case c_sums_behind => k_is)
    (case k_sums_behind => k_is)
    (case a_with_either_sign => k_is)
    (case l_with_either_sign => k_is)
    (case c_with_either_sign => k_is)
    (case k_with_either_sign => k_is)
    (case a_law_draw => k_is)
    (case l_law_draw => k_is)
    (case c_law_draw => k_is)
    (case k_law_draw => k_is)
    (case a_law_worth => k_is)
    (case l_law_worth => k_is)
    (case c_law_worth => k_is)
    (case k_law_worth => k_is)
    (case a_law_counts => k_is)
    (case l_law_counts => k_is)
    (case c_law_counts => k_is)
    (case k_law_counts => k_is)
    (case a_law_ahead => k_is)
    (case l_law_ahead => k_is)
    (case c_law_ahead => k_is)
    (case k_law_ahead => k_is)
    (case a_law_place => k_is)
    (case l_law_place => k_is)
    (case c_law_place => k_is)
    (case k_law_place => k_is)
    (case a_law_refused => k_is)
    (case l_law_refused => k_is)
    (case c_law_refused => k_is)
    (case k_law_refused => k_is)
    (case a_law_keys => k_is)
    (case l_law_keys => k_is)
    (case c_law_keys => k_is)
    (case k_law_keys => k_is)
    (case a_law_row => k_is)
    (case l_law_row => k_is)
    (case c_law_row => k_is)
    (case k_law_row => k_is)
    (case a_law_ways_right => k_is)
    (case l_law_ways_right => k_is)
    (case c_law_ways_right => k_is)
    (case k_law_ways_right => k_is)
    (case a_law => k_is)
    (case l_law => k_is)
    (case c_law => k_is)
    (case k_law => k_is)
    (case a_WishError => k_is)
    (case l_WishError => k_is)
    (case t_WishError => kernel_rfl)
    (case kp_WishError => k_is)
    (case ga_WishError => k_is)
    (case gh_WishError => k_is)
    (case gc_WishError => k_is)
    (case sa_WishError => k_is)
    (case a_NoText => k_is)
    (case l_NoText => k_is)
    (case t_NoText => kernel_rfl)
    (case kp_NoText => k_is)
    (case ga_NoText => k_is)
    (case gh_NoText => k_is)
    (case gc_NoText => k_is)
    (case sa_NoText => k_is)
    (case a_NoAsk => k_is)
    (case l_NoAsk => k_is)
    (case t_NoAsk => kernel_rfl)
    (case kp_NoAsk => k_is)
    (case ga_NoAsk => k_is)
    (case gh_NoAsk => k_is)
    (case gc_NoAsk => k_is)
    (case sa_NoAsk => k_is)
    (case a_NoWay => k_is)
    (case l_NoWay => k_is)
    (case t_NoWay => kernel_rfl)
    (case kp_NoWay => k_is)
    (case ga_NoWay => k_is)
    (case gh_NoWay => k_is)
    (case gc_NoWay => k_is)
    (case sa_NoWay => k_is)
    (case i_NoText => k_is)
    (case i_NoAsk => k_is)
    (case i_NoWay => k_is)
    (case y_init => k_is)
    (case l_init => k_is)
    (case cd_ok_init => k_is)
    (case k_init => k_is)
    (case w_NoWay => k_is)
    (case n_W => decide +kernel)
    (case n_T => decide +kernel)
    (case n_S => decide +kernel)
    (case t_W => decide +kernel)
    (case t_S => decide +kernel)
    (case t_N => decide +kernel)
    (case s_W => decide +kernel)
    (case s_T => decide +kernel)
    (case s_N => decide +kernel)
    (case z_ValueError => k_is)
    (case z_max => k_is)
    (case z_min => k_is)
    (case z_list => k_is)
    (case z_sorted => k_is)
    (case z_set => k_is)
    (case z_len => k_is)
    (case z_sum => k_is)
    (case z_range => k_is)
    (case z_isinstance => k_is)
    (case z_int => k_is)
    (case z_str => k_is)
    (case z_bool => k_is)
    (case z_tuple => k_is)
    (case z_zip => k_is)
#print axioms PySem.Challenge.cw_ledtowish_k32_whole_long_rows_of_sides_holds
