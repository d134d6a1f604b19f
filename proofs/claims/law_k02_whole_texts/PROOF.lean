import PyProof.Rows.All
import Wide.All
import OpenK.AllK
import Wide.FinOn
import Lean
import PyProof.EqAt
import PyProof.EqKinds
import PyProof.TupleCall
import PySem.Unicode
import PyProof.StrLawsReplace
import PyProof.StrLawsTight
import PyProof.StrLawsWords2
import PyProof.StrLawsAffix
import PyProof.StrLawsNeg
import KE.IntTextLaws
import PySem.Challenge.RW_wildtakes_k02_whole_texts
-- P1

set_option Elab.async false
set_option linter.all false
set_option maxRecDepth 100000
/-! THE HAND LAYER, for ints, bools, texts, own classes, LISTS and tuples (index, slices, in, append, pop ..), calls, loops. Paste it whole ahead of your own text; what your proof does not reach may be deleted. -/
namespace L2
open PySem PySem.Spec PyProof.Rows

/-- a key: an int or a str -/
abbrev Key := Sum Int Str
def keyIs : Key → Value → Bool
  | .inl k, v => Value.isInt k v
  | .inr x, v => Value.isStrOf x v
def keyH (w : World) : Key → Int
  | .inl k => hashInt k
  | .inr x => hashStr w x
theorem keyIs_shape : ∀ {k : Key} {v : Value}, keyIs k v = true → (∃ i t, k = Sum.inl i ∧ v = Value.int i t) ∨ (∃ x t, k = Sum.inr x ∧ v = Value.str x t)
  | .inl i, v, h => by
    obtain ⟨t, e⟩ := Value.isInt_shape (k := i) (v := v) h
    exact .inl ⟨i, t, rfl, e⟩
  | .inr x, v, h => by
    obtain ⟨t, e⟩ := Value.isStrOf_shape (x := x) (v := v) h
    exact .inr ⟨x, t, rfl, e⟩
theorem keyIs_str (x : Str) (t : Tok) : keyIs (.inr x) (.str x t) = true := by simp [keyIs, Value.isStrOf]
theorem key_ll (a b : Int) : decide ((Sum.inl a : Key) = Sum.inl b) = (a == b) := by
  by_cases e : a = b
  · subst e; simp
  · have h : ¬ (Sum.inl a : Key) = Sum.inl b := fun q => e (Sum.inl.inj q)
    rw [decide_eq_false h]
    exact (beq_eq_false_iff_ne.mpr e).symm
theorem key_rr (a b : Str) : decide ((Sum.inr a : Key) = Sum.inr b) = decide (a = b) := by
  by_cases e : a = b
  · subst e; simp
  · have h : ¬ (Sum.inr a : Key) = Sum.inr b := fun q => e (Sum.inr.inj q)
    rw [decide_eq_false h, decide_eq_false e]
theorem key_lr (a : Int) (b : Str) : decide ((Sum.inl a : Key) = Sum.inr b) = false := decide_eq_false (fun q => nomatch q)
theorem key_rl (a : Str) (b : Int) : decide ((Sum.inr a : Key) = Sum.inl b) = false := decide_eq_false (fun q => nomatch q)

def mixKind (prog : Program) (w : World) : PySem.KeyKind prog w Key where
  is := keyIs
  hash := keyH w
  inj := fun v a b ha hb => by
    rcases keyIs_shape ha with ⟨i, t, rfl, rfl⟩ | ⟨x, t, rfl, rfl⟩
    · rcases keyIs_shape hb with ⟨j, u, rfl, e⟩ | ⟨y, u, rfl, e⟩
      · injection e with e1 _; rw [e1]
      · exact nomatch e
    · rcases keyIs_shape hb with ⟨j, u, rfl, e⟩ | ⟨y, u, rfl, e⟩
      · exact nomatch e
      · injection e with e1 _; rw [e1]
  byValue := fun k v h => by
    rcases keyIs_shape h with ⟨i, t, rfl, rfl⟩ | ⟨x, t, rfl, rfl⟩ <;> rfl
  pyHash := fun hv h => by
    rcases keyIs_shape hv with ⟨i, t, rfl, rfl⟩ | ⟨x, t, rfl, rfl⟩
    · exact wpAny_pyHash_int h
    · exact wpAny_pyHash_str h
  eqBool := fun hu hv h => by
    rcases keyIs_shape hu with ⟨i, t, rfl, rfl⟩ | ⟨x, t, rfl, rfl⟩
    · rcases keyIs_shape hv with ⟨j, u, rfl, rfl⟩ | ⟨y, u, rfl, rfl⟩
      · rw [key_ll] at h; exact wpAny_eqBool_int h
      · rw [key_lr] at h; exact SeqAt.EqAt.int_str i t y u _ _ _ _ h
    · rcases keyIs_shape hv with ⟨j, u, rfl, rfl⟩ | ⟨y, u, rfl, rfl⟩
      · rw [key_rl] at h; exact SeqAt.EqAt.str_int x t j u _ _ _ _ h
      · rw [key_rr] at h; exact wpAny_eqBool_str h
  «strs» := fun k x t v h => by
    rcases keyIs_shape h with ⟨i, u, rfl, e⟩ | ⟨y, u, rfl, e⟩
    · exact nomatch e
    · injection e with e1 _
      subst e1
      cases v <;> rfl

theorem mixKind_str (prog : Program) (w : World) (x : Str) (t : Tok) : (mixKind prog w).is (.inr x) (.str x t) = true := keyIs_str x t
end L2

namespace L2
open PySem PySem.Spec PyProof.Rows

/-- a value, without the heap -/
inductive V where
  | non | bl (b : Bool) | int (i : Int) | str (x : Str) | byt (b : Array UInt8) | flt (b : UInt64) | ref (a : Addr) | ty (n : String)
  deriving DecidableEq

def RelV : V → Value → Prop
  | .non, u => u = Value.none
  | .bl b, u => u = Value.bool b
  | .int i, u => ∃ t, u = Value.int i t
  | .str x, u => ∃ t, u = Value.str x t
  | .byt b, u => ∃ t, u = Value.bytes b t
  | .flt b, u => ∃ t, u = Value.float b t
  | .ref a, u => u = Value.ref a
  | .ty n, u => u = Value.type n

abbrev Vals : List V → List Value → Prop := Paired RelV
theorem Vals.length {xs : List V} {us : List Value} (r : Vals xs us) : xs.length = us.length := Paired.length r
theorem Vals.get : ∀ {xs : List V} {us : List Value} {i : Nat} {x : V}, Vals xs us → xs[i]? = some x → ∃ u, us[i]? = some u ∧ RelV x u
  | _, _, _, _, .nil, e => by simp at e
  | _, _, 0, _, .cons r _, e => by simp at e; subst e; exact ⟨_, rfl, r⟩
  | _, _, i + 1, x, .cons _ t, e => by
    obtain ⟨u, h1, h2⟩ := Vals.get (i := i) (x := x) t (by simpa using e)
    exact ⟨u, by simpa using h1, h2⟩
theorem Vals.set {x : V} {u : Value} (r : RelV x u) : ∀ {xs : List V} {us : List Value} (i : Nat), Vals xs us → Vals (xs.set i x) (us.set i u)
  | _, _, _, .nil => .nil
  | _, _, 0, .cons _ t => .cons r t
  | _, _, i + 1, .cons q t => .cons q (Vals.set r i t)
theorem Vals.append : ∀ {xs ys : List V} {us ws : List Value}, Vals xs us → Vals ys ws → Vals (xs ++ ys) (us ++ ws)
  | _, _, _, _, .nil, s => s
  | _, _, _, _, .cons r t, s => .cons r (Vals.append t s)
theorem Vals.take : ∀ {xs : List V} {us : List Value} (n : Nat), Vals xs us → Vals (xs.take n) (us.take n)
  | _, _, 0, _ => .nil
  | _, _, _ + 1, .nil => .nil
  | _, _, n + 1, .cons r t => .cons r (Vals.take n t)
theorem Vals.drop : ∀ {xs : List V} {us : List Value} (n : Nat), Vals xs us → Vals (xs.drop n) (us.drop n)
  | _, _, 0, r => r
  | _, _, _ + 1, .nil => .nil
  | _, _, n + 1, .cons _ t => Vals.drop n t
def RelO : Option V → Option Value → Prop
  | some v, some u => RelV v u
  | none, none => True
  | _, _ => False
def KV {κ : Type} : List (κ × V) → List (κ × Value) → Prop := Paired fun (p : κ × V) (q : κ × Value) => p.1 = q.1 ∧ RelV p.2 q.2

/-- a key of a dict (00_mix): an int or a text -/
def kV : Key → V
  | .inl i => .int i
  | .inr x => .str x

/-- what stands at a tracked address -/
inductive HO where
  /-- a list -/
  | lst (xs : List V)
  /-- a tuple (never changes) -/
  | tup (xs : List V)
  /-- a dict whose keys are ints and texts; one whose keys are tuples of ints and texts (the empty one is both) -/
  | dK (kvs : List (Key × V)) | dT (kvs : List (List Key × V))
  /-- a set of ints: its members, its size -/
  | set (S : Int → Bool) (n : Nat)
  /-- an instance of the class at C, its dict at dx, its attributes -/
  | ins (C dx : Addr) (fs : List (Str × V))
  /-- the dict of the instance at x -/
  | own (x : Addr)
  /-- the dict of an exception -/
  | xd (fs : List (Str × V))
  /-- a bound method, f of x -/
  | met (f x : Addr)
  /-- a range object lo, lo + 1, .. below hi -/
  | rng (lo hi : Int)
  /-- a thing that is known to the object (the script; a dict while a loop walks it): read, never written while it is so -/
  | frz (o : Obj) (u : HO)
  /-- a code object's table -/
  | tbl (ps : Array Value)
  /-- any other thing, by what is true of its one object (a def of one's own: SetO a S n := HO.ext fun h => ..) -/
  | ext (φ : Heap → Prop)

abbrev Hp := Addr → Option HO
def upd (H : Hp) (a : Addr) (o : HO) : Hp := fun b => if b = a then some o else H b
theorem upd_same {H : Hp} {a : Addr} {o : HO} : upd H a o a = some o := by unfold upd; rw [if_pos rfl]
theorem upd_ne {H : Hp} {a b : Addr} {o : HO} (h : b ≠ a) : upd H a o b = H b := by unfold upd; rw [if_neg h]
/-- two objects of different content stand apart -/
theorem ne_of {H : Hp} {a b : Addr} {o u : HO} (h : H a = some o) (h' : H b = some u) (d : o ≠ u) : a ≠ b := by
  intro e; subst e; rw [h] at h'; exact d (Option.some.inj h')
theorem ne_of_none {H : Hp} {a b : Addr} {o : HO} (h : H a = some o) (h' : H b = none) : a ≠ b := by
  intro e; subst e; rw [h] at h'; cases h'

section
variable (P : Program) (w : World)
def ObjOk (H : Hp) (h : Heap) (a : Addr) : HO → Prop
  | .lst xs => xs.length ≤ sizeLine ∧ ∃ (its : List Value) (n : Nat), Vals xs its ∧ h.get? a = some { cls := .type "list", data := .seq its.toArray n }
  | .tup xs => xs.length ≤ sizeLine ∧ ∃ its : List Value, Vals xs its ∧ IsTup h a its.toArray
  | .dK kvs => kvs.length ≤ sizeLine ∧ (a == sysModules) = false ∧ ∃ vs, KV kvs vs ∧ h.DictOf (mixKind P w) a vs
  | .dT kvs => kvs.length ≤ sizeLine ∧ (a == sysModules) = false ∧ ∃ xs : List (List Key × Addr × Value),
      Paired (fun (p : List Key × V) (q : List Key × Addr × Value) => p.1 = q.1 ∧ H q.2.1 = some (.tup (p.1.map kV)) ∧ RelV p.2 q.2.2) kvs xs ∧
      ∃ o es ep, h.get? a = some o ∧ o.ExactDict ∧ o.data = .dict es ep ∧ es.toList = xs.map (entryOfKey (tupleKind (mixKind P w))) ∧ (xs.map (·.1)).Nodup
  | .set S n => h.SetOf (intKind P w) a S n
  | .ins C dx fs => H dx = some (.own a) ∧ fs.length ≤ 1000 ∧ dx ≠ a ∧ h.get? a = some (PySem.W.instObj C dx) ∧
      ∃ mA, h.Ns1 dx mA ∧ (∀ f, RelO (fs.lookup f) (mA f)) ∧ PySem.Within mA (fs.map (·.1))
  | .own _ => ∃ o, h.get? a = some o
  | .xd fs => ∃ mA, h.Ns1 a mA ∧ ∀ f, RelO (fs.lookup f) (mA f)
  | .rng lo hi => ∃ t u v, h.get? a = some { cls := .type "range", data := .fields #[.int lo t, .int hi u, .int 1 v] }
  | .frz o u => h.get? a = some o ∧ ObjOk H h a u
  | .tbl ps => h.get? a = some { cls := .none, data := .fields ps }
  | .met f x => h.get? a = some (PySem.W.methodObj (.ref f) (.ref x))
  | .ext φ => φ h ∧ (∃ o, h.get? a = some o) ∧ ∀ h1 h2 : Heap, φ h1 → (∀ o, h1.get? a = some o → h2.get? a = some o) → φ h2
/-- the abstract heap is held -/
def HOk (H : Hp) (h : Heap) : Prop := ∀ a o, H a = some o → ObjOk P w H h a o
end

section
variable {P : Program} {w : World} {H H' : Hp} {h h' : Heap} {a : Addr} {o : HO}
theorem ObjOk.lt (x : ObjOk P w H h a o) : a < h.objs.size := by
  cases o with
  | lst xs => obtain ⟨_, _, _, _, e⟩ := x; exact Heap.lt_size e
  | tup xs => obtain ⟨_, _, _, p⟩ := x; exact p.lt
  | dK kvs => obtain ⟨_, _, _, _, o, _, _, e, _⟩ := x; exact Heap.lt_size e
  | dT kvs => obtain ⟨_, _, _, _, o, _, _, e, _⟩ := x; exact Heap.lt_size e
  | set S n => obtain ⟨o, _, _, _, e, _⟩ := x; exact Heap.lt_size e
  | ins C dx fs => obtain ⟨_, _, _, e, _⟩ := x; exact Heap.lt_size e
  | own y => obtain ⟨_, e⟩ := x; exact Heap.lt_size e
  | xd fs => obtain ⟨_, ⟨_, _, _, e, _⟩, _⟩ := x; exact Heap.lt_size e
  | rng lo hi => obtain ⟨_, _, _, e⟩ := x; exact Heap.lt_size e
  | frz ob u => obtain ⟨e, _⟩ := x; exact Heap.lt_size e
  | tbl ps => exact Heap.lt_size (show h.get? a = some _ from x)
  | met f y => exact Heap.lt_size (show h.get? a = some _ from x)
  | ext φ => obtain ⟨_, ⟨_, e⟩, _⟩ := x; exact Heap.lt_size e
theorem Paired.mapP {α β : Type} {F G : α → β → Prop} : ∀ {l₁ : List α} {l₂ : List β}, Paired F l₁ l₂ → (∀ a b, F a b → G a b) → Paired G l₁ l₂
  | _, _, .nil, _ => .nil
  | _, _, .cons r t, f => .cons (f _ _ r) (Paired.mapP t f)
/-- what an object's description leans on: its own object, its own dict, the tuples -/
theorem ObjOk.stay (x : ObjOk P w H h a o) (k : ∀ b u, (b = a ∨ H b = some (.own a)) → h.get? b = some u → h'.get? b = some u)
    (ho : ∀ b, H b = some (.own a) → H' b = some (.own a)) (ht : ∀ b xs, H b = some (.tup xs) → H' b = some (.tup xs)) : ObjOk P w H' h' a o := by
  induction o with
  | lst xs => obtain ⟨z, its, n, r, e⟩ := x; exact ⟨z, its, n, r, k _ _ (.inl rfl) e⟩
  | tup xs => obtain ⟨z, its, r, ob, e, c⟩ := x; exact ⟨z, its, r, ob, k _ _ (.inl rfl) e, c⟩
  | dK kvs => obtain ⟨z, y, vs, r, ob, es, ep, e, c⟩ := x; exact ⟨z, y, vs, r, ob, es, ep, k _ _ (.inl rfl) e, c⟩
  | dT kvs =>
    obtain ⟨z, y, xs, r, ob, es, ep, e, c⟩ := x
    exact ⟨z, y, xs, Paired.mapP r fun p q z => ⟨z.1, ht _ _ z.2.1, z.2.2⟩, ob, es, ep, k _ _ (.inl rfl) e, c⟩
  | set S n => obtain ⟨ob, es, ep, t, e, c⟩ := x; exact ⟨ob, es, ep, t, k _ _ (.inl rfl) e, c⟩
  | ins C dx fs =>
    obtain ⟨d, z, ne, e, mA, ⟨od, es, ep, e2, c⟩, r⟩ := x
    exact ⟨ho _ d, z, ne, k _ _ (.inl rfl) e, mA, ⟨od, es, ep, k _ _ (.inr d) e2, c⟩, r⟩
  | own y => obtain ⟨ob, e⟩ := x; exact ⟨ob, k _ _ (.inl rfl) e⟩
  | xd fs => obtain ⟨mA, ⟨od, es, ep, e, c⟩, r⟩ := x; exact ⟨mA, ⟨od, es, ep, k _ _ (.inl rfl) e, c⟩, r⟩
  | rng lo hi => obtain ⟨t, u, v, e⟩ := x; exact ⟨t, u, v, k _ _ (.inl rfl) e⟩
  | frz ob u ih => obtain ⟨e, q⟩ := x; exact ⟨k _ _ (.inl rfl) e, ih q⟩
  | tbl ps =>
    have e : h.get? a = some { cls := .none, data := .fields ps } := x
    show h'.get? a = some { cls := .none, data := .fields ps }
    exact k a _ (.inl rfl) e
  | met f y =>
    have e : h.get? a = some (PySem.W.methodObj (.ref f) (.ref y)) := x
    show h'.get? a = some (PySem.W.methodObj (.ref f) (.ref y))
    exact k a _ (.inl rfl) e
  | ext φ => obtain ⟨p, ⟨o, e⟩, st⟩ := x; exact ⟨st _ _ p fun o q => k _ _ (.inl rfl) q, ⟨o, k _ _ (.inl rfl) e⟩, st⟩
theorem HOk.lt (x : HOk P w H h) (e : H a = some o) : a < h.objs.size := (x a o e).lt
theorem HOk.fresh (x : HOk P w H h) (e : h.objs.size ≤ a) : H a = none := by
  cases q : H a with
  | none => rfl
  | some u => exact absurd (Nat.lt_of_lt_of_le (x.lt q) e) (Nat.lt_irrefl _)
/-- every object of the heap is kept -/
theorem HOk.kept (x : HOk P w H h) (k : ∀ b u, h.get? b = some u → h'.get? b = some u) : HOk P w H h' := fun a o e =>
  (x a o e).stay (fun b u _ q => k b u q) (fun _ q => q) fun _ _ q => q
/-- a new object is laid and tracked -/
theorem HOk.laid (x : HOk P w H h) (k : ∀ b u, h.get? b = some u → h'.get? b = some u) (hp : h.objs.size ≤ a) (new : ObjOk P w (upd H a o) h' a o) : HOk P w (upd H a o) h' := fun b u e => by
  have hn := x.fresh hp
  by_cases hb : b = a
  · subst hb; rw [upd_same] at e; cases e; exact new
  · rw [upd_ne hb] at e
    exact (x b u e).stay (fun c v _ q => k c v q) (fun c q => by rw [upd_ne (ne_of_none q hn)]; exact q) fun c xs q => by rw [upd_ne (ne_of_none q hn)]; exact q
end

/-- what may be read as u: it is u, or a known u -/
def Rd (H : Hp) (a : Addr) (u : HO) : Prop := H a = some u ∨ ∃ o, H a = some (.frz o u)
theorem Rd.ok {P : Program} {w : World} {H : Hp} {h : Heap} {a : Addr} {u : HO} (r : Rd H a u) (x : HOk P w H h) : ObjOk P w H h a u := by
  rcases r with r | ⟨o, r⟩
  · exact x a u r
  · obtain ⟨_, q⟩ := x a _ r
    exact q
/-- what may be written -/
def Mut : Option HO → Prop
  | some (.lst _) => True
  | some (.dK _) => True
  | some (.dT _) => True
  | some (.set _ _) => True
  | some (.ins _ _ _) => True
  | some (.ext _) => True
  | _ => False
section
variable {P : Program} {w : World} {H : Hp} {h h' : Heap} {x e : Addr} {o' : HO}
/-- the object at e is changed: x itself, or the dict of the instance x -/
theorem HOk.write (ok : HOk P w H h) (mu : Mut (H x)) (he : e = x ∨ H e = some (.own x)) (k : ∀ b u, b ≠ e → h.get? b = some u → h'.get? b = some u) (heo : ∃ u, h'.get? e = some u)
    (new : ObjOk P w (upd H x o') h' x o') : HOk P w (upd H x o') h' := fun b u q => by
  have nown : ∀ c y, H c = some (.own y) → c ≠ x := fun c y r z => by subst z; rw [r] at mu; exact mu
  have ntup : ∀ c xs, H c = some (.tup xs) → c ≠ x := fun c xs r z => by subst z; rw [r] at mu; exact mu
  by_cases hb : b = x
  · subst hb; rw [upd_same] at q; cases q; exact new
  · rw [upd_ne hb] at q
    by_cases hbe : b = e
    · have q' : H b = some (.own x) := by
        rcases he with z | z
        · exact absurd (hbe.trans z) hb
        · rw [hbe]; exact z
      rw [q] at q'; cases q'
      obtain ⟨v, hv⟩ := heo
      exact ⟨v, by rw [hbe]; exact hv⟩
    · refine (ok b u q).stay (fun c v hc r => k c v ?_ r) (fun c r => by rw [upd_ne (nown c b r)]; exact r) fun c xs r => by rw [upd_ne (ntup c xs r)]; exact r
      rcases hc with rfl | hc
      · exact hbe
      · rintro rfl
        rcases he with z | z
        · exact nown c b hc z
        · rw [hc] at z; cases z; exact hb rfl
end

/-! ### kept unless tracked; of the frames at fs (the callers') the slots may change (an exception that passes writes there); of the records at ex (iterators) nothing is said -/
structure Un (fs ex : List Addr) (H H' : Hp) (h h' : Heap) : Prop where
  keep : ∀ b o, h.get? b = some o → H b = none → b ∉ fs → b ∉ ex → h'.get? b = some o
  slot : ∀ b o, h.get? b = some o → H b = none → b ∈ fs → b ∉ ex → ∃ sl, h'.get? b = some { o with slots := sl }
  free : ∀ b o, h.get? b = some o → H b = none → b ∉ ex → H' b = none
  there : ∀ b o, h.get? b = some o → b ∉ ex → ∃ o', h'.get? b = some o'
  tups : ∀ b xs, H b = some (.tup xs) → H' b = some (.tup xs)
  frzs : ∀ b o u, H b = some (.frz o u) → H' b = some (.frz o u)
  tbls : ∀ b ps, H b = some (.tbl ps) → ∃ more, H' b = some (.tbl (ps ++ more))
section
variable {fs fs' ex ex' : List Addr} {H H1 H2 : Hp} {h h1 h2 h' : Heap} {a x e : Addr} {o : HO}
theorem Un.any (u : Un fs ex H H1 h h1) {b : Addr} {ob : Obj} (q : h.get? b = some ob) (n : H b = none) (hx : b ∉ ex) : ∃ sl, h1.get? b = some { ob with slots := sl } := by
  by_cases hb : b ∈ fs
  · exact u.slot b ob q n hb hx
  · exact ⟨ob.slots, u.keep b ob q n hb hx⟩
theorem Un.kept (k : ∀ b u, h.get? b = some u → h'.get? b = some u) : Un fs ex H H h h' :=
  ⟨fun b ob q _ _ _ => k b ob q, fun b ob q _ _ _ => ⟨ob.slots, k b ob q⟩, fun _ _ _ n _ => n, fun b ob q _ => ⟨ob, k b ob q⟩, fun _ _ q => q, fun _ _ _ q => q, fun _ ps q => ⟨#[], by rw [q]; simp⟩⟩
theorem Un.refl : Un fs ex H H h h := Un.kept fun _ _ q => q
theorem Un.laid (k : ∀ b u, h.get? b = some u → h'.get? b = some u) (hp : h.objs.size ≤ a) (hn : H a = none) : Un fs ex H (upd H a o) h h' where
  keep := fun b u q _ _ _ => k b u q
  slot := fun b u q _ _ _ => ⟨u.slots, k b u q⟩
  free := fun b u q n _ => by rw [upd_ne (Nat.ne_of_lt (Nat.lt_of_lt_of_le (Heap.lt_size q) hp))]; exact n
  there := fun b u q _ => ⟨u, k b u q⟩
  tups := fun b xs q => by rw [upd_ne (ne_of_none q hn)]; exact q
  frzs := fun b u xs q => by rw [upd_ne (ne_of_none q hn)]; exact q
  tbls := fun b ps q => ⟨#[], by rw [upd_ne (ne_of_none q hn), q]; simp⟩
theorem Un.write (mu : Mut (H x)) (he : e = x ∨ H e = some (.own x)) (k : ∀ b u, b ≠ e → h.get? b = some u → h'.get? b = some u) (heo : ∃ u, h'.get? e = some u) : Un fs ex H (upd H x o) h h' := by
  have hx : ∀ b, H b = none → b ≠ x := fun b n z => by subst z; rw [n] at mu; exact mu
  have hb : ∀ b, H b = none → b ≠ e := fun b n z => by
    subst z
    rcases he with r | r
    · exact hx b n r
    · rw [n] at r; cases r
  have hm : ∀ b u, H b = some u → ¬ Mut (some u) → b ≠ x := fun b u q nm z => by subst z; rw [q] at mu; exact nm mu
  refine ⟨fun b u q n _ _ => k b u (hb b n) q, fun b u q n _ _ => ⟨u.slots, k b u (hb b n) q⟩, fun b u q n _ => by rw [upd_ne (hx b n)]; exact n, fun b u q _ => ?_,
    fun b xs q => by rw [upd_ne (hm b _ q fun z => z)]; exact q, fun b u xs q => by rw [upd_ne (hm b _ q fun z => z)]; exact q, fun b ps q => ⟨#[], by rw [upd_ne (hm b _ q fun z => z), q]; simp⟩⟩
  by_cases hbe : b = e
  · subst hbe; exact heo
  · exact ⟨u, k b u hbe q⟩
end

/-! ### the heap without what is tracked -/
def trk (h : Heap) (H : Hp) : List Addr := (List.range h.objs.size).filter fun a => (H a).isSome
def hidT (h : Heap) (H : Hp) : Heap := PySem.W.hideAll h (trk h H)
theorem hidT_size (h : Heap) (H : Hp) : (hidT h H).objs.size = h.objs.size := PySem.W.hideAll_size _ _
theorem hidT_get {h : Heap} {H : Hp} {b : Addr} {o : Obj} (e : h.get? b = some o) (n : H b = none) : (hidT h H).get? b = some o :=
  PySem.W.hideAll_get _ e fun hm => by
    have q : (H b).isSome = true := (List.mem_filter.mp hm).2
    rw [n] at q; simp at q
theorem of_hidT {h : Heap} {H : Hp} {b : Addr} {o : Obj} (e : (hidT h H).get? b = some o) : h.get? b = some o ∧ H b = none := by
  have e' : h.get? b = some o := PySem.W.of_hideAll (trk h H) e
  refine ⟨e', ?_⟩
  cases q : H b with
  | none => rfl
  | some x =>
    have hm : b ∈ trk h H := List.mem_filter.mpr ⟨List.mem_range.mpr (Heap.lt_size e'), by simp [q]⟩
    have z : (hidT h H).get? b = none := PySem.W.hideAll_none (trk h H) hm
    rw [z] at e; cases e

/-! ### OpenK's ledger, filled with every new object but one -/
def allNews (g h : Heap) (L : Addr) : List (Addr × Obj) := (List.range h.objs.size).filterMap fun a => if a = L ∨ (g.get? a).isSome = true then none else (h.get? a).map fun o => (a, o)
def rest (g h : Heap) (L d : Addr) : List (Addr × Obj) := (allNews g h L).filter fun p => decide (p.1 ≠ d)
end L2

namespace L2
open PySem PySem.Spec PyProof.Rows

/-- the module's facts, over the base: the heap at the law's entry without what is tracked there -/
structure Mod (K : PySem.W.Frag) (mg : Str → Option Value) (base : Heap) : Prop where
  kin : K.In base
  glob : base.Ns mainGlobals mg
  blt : ∃ mb, base.Ns builtinsNs mb ∧ ∀ x : Str, x ≠ "__name__" → mb x = bootBuiltins x
  nolimit : base.NoLimit

/-- the context: a def's body (or a comprehension's block) running. base: fixed through the whole law; s₀, H₀: the entry; outer: the frames whose slots others may change (a def's callers); stack: all frames that run;
   ex: iterators that were made ahead of the entry and are walked here (a comprehension's); fn: the names whose cells were made at the entry (a def: all; a comprehension's block: its own); calm: not within an except suite; pn: pins that every state bears; xe: what is wanted of an exception that leaves the code -/
structure Cx where
  prog : Program
  w : World
  K : PySem.W.Frag
  mg : Str → Option Value
  base : Heap
  A : Around
  N : List Str
  s₀ : Shared
  H₀ : Hp
  env : Env
  outer : List Env
  stack : List Env
  ex : List Addr
  fn : Str → Bool
  calm : Bool
  pn : List (Addr × Obj)
  xe : Value → Shared → Prop
/-- the callers' frames -/
def frs (l : List Env) : List Addr := l.filterMap (·.frame)
abbrev Cx.fs (X : Cx) : List Addr := frs X.outer

def Vis (sc : Scope) (x : Str) : Prop := sc.names.lookup x = some .local ∨ sc.names.lookup x = some .cell ∨ sc.names.lookup x = some .free
def Loc (sc : Scope) (x : Str) : Prop := sc.names.lookup x = some .local ∨ sc.names.lookup x = some .cell
def Look (env : Env) (h : Heap) (m : Str → Option Value) (x : Str) (u : Value) : Prop :=
  (env.kindOf x = some .local ∧ m x = some u) ∨ ((env.kindOf x = some .cell ∨ env.kindOf x = some .free) ∧ ∃ c, env.cells.lookup x = some c ∧ h.IsCell c (some u))

structure Cx.Ok (X : Cx) : Prop where
  mod : Mod X.K X.mg X.base
  kind : X.env.scope.kind = .function
  glob : X.env.globals = mainGlobals
  blt : X.env.builtins = builtinsNs
  above : X.s₀.heap.objs.size ≤ X.env.locals
  inj : ∀ x y c, X.env.cells.lookup x = some c → X.env.cells.lookup y = some c → x = y
  has : ∀ x, (X.env.kindOf x = some .cell ∨ X.env.kindOf x = some .free) → ∃ c, X.env.cells.lookup x = some c
  cab : ∀ x c, X.fn x = true → X.env.cells.lookup x = some c → X.s₀.heap.objs.size ≤ c
  hd : X.calm = true → X.A.handled = none
  frames : X.A.frames = some X.stack
  stk : X.stack = X.outer ∨ (X.stack = X.env :: X.outer ∧ X.env.frame = some X.env.locals)
  exf : ∀ b ∈ X.ex, b ≠ X.env.locals ∧ ∀ x c, X.env.cells.lookup x = some c → c ≠ b
  bs : ∀ b o, X.base.get? b = some o → X.s₀.heap.get? b = some o ∧ X.H₀ b = none
  bsz : X.base.objs.size ≤ X.s₀.heap.objs.size
  noex : ∀ b o, X.base.get? b = some o → b ∉ X.ex
  exfs : ∀ b ∈ X.ex, b ∉ X.fs
  funs : X.s₀.heap.FunFrames X.base X.outer
  frf : ∀ b ∈ X.fs, X.H₀ b = none

structure Inv (X : Cx) (pins : List (Addr × Obj)) (σ : List (Option V)) (H : Hp) (s : Shared) : Prop where
  ok : X.Ok
  os : s.os = X.s₀.os
  bare : AllBare s.gens
  base : Un X.fs X.ex X.H₀ H X.s₀.heap s.heap
  loc : ∃ m, s.heap.Ns X.env.locals m ∧ ∀ (i : Nat) (x : Str) (v : V), X.N[i]? = some x → σ[i]? = some (some v) → Vis X.env.scope x → ∃ u, RelV v u ∧ Look X.env s.heap m x u
  cell : ∀ x c, X.env.cells.lookup x = some c → ∃ v, s.heap.IsCell c v
  free : H X.env.locals = none
  freeC : ∀ x c, X.env.cells.lookup x = some c → H c = none
  pin : ∀ p ∈ X.pn ++ pins, s.heap.get? p.1 = some p.2 ∧ H p.1 = none ∧ p.1 ≠ X.env.locals ∧ p.1 ∉ X.fs ∧ ∀ v, p.2.data ≠ .cell v
  hok : HOk X.prog X.w H s.heap
  len : σ.length = X.N.length

section
variable {X : Cx} {pins : List (Addr × Obj)} {σ : List (Option V)} {H H' : Hp} {s : Shared} {h' : Heap}

theorem Cx.Ok.nofr (ok : X.Ok) {b : Addr} {o : Obj} (e : X.base.get? b = some o) : b ∉ X.fs := fun hb => by
  have := (ok.funs.mem hb).1
  rw [e] at this; cases this
theorem Inv.bs (I : Inv X pins σ H s) : ∀ b o, X.base.get? b = some o → s.heap.get? b = some o ∧ H b = none := fun b o e =>
  ⟨I.base.keep b o (I.ok.bs b o e).1 (I.ok.bs b o e).2 (I.ok.nofr e) (I.ok.noex b o e), I.base.free b o (I.ok.bs b o e).1 (I.ok.bs b o e).2 (I.ok.noex b o e)⟩
theorem Inv.bk (I : Inv X pins σ H s) : ∀ b o, X.base.get? b = some o → s.heap.get? b = some o := fun b o e => (I.bs b o e).1
theorem Inv.mod (I : Inv X pins σ H s) : Mod X.K X.mg X.base := I.ok.mod
theorem Inv.kIn (I : Inv X pins σ H s) : X.K.In s.heap := I.ok.mod.kin.keeps I.bk
theorem Inv.lt (I : Inv X pins σ H s) : X.env.locals < s.heap.objs.size := let ⟨_, hn, _⟩ := I.loc; hn.lt
theorem Inv.sz (I : Inv X pins σ H s) : X.s₀.heap.objs.size ≤ s.heap.objs.size := Nat.le_trans I.ok.above (Nat.le_of_lt I.lt)
theorem Inv.nofs (I : Inv X pins σ H s) {a : Addr} (h : s.heap.objs.size ≤ a) : a ∉ X.fs := fun hb => by
  obtain ⟨_, o, ho, _⟩ := I.ok.funs.mem hb
  exact absurd (Nat.lt_of_lt_of_le (Heap.lt_size ho) (Nat.le_trans I.sz h)) (Nat.lt_irrefl _)
theorem Inv.cne (I : Inv X pins σ H s) : ∀ x c, X.env.cells.lookup x = some c → c ≠ X.env.locals := fun x c e z => by
  obtain ⟨v, o, ho, hd⟩ := I.cell x c e
  obtain ⟨m, ⟨o', es, ep, ho', hd', _⟩, _⟩ := I.loc
  rw [z, ho'] at ho; cases ho; rw [hd'] at hd; cases hd
theorem Inv.funs (I : Inv X pins σ H s) : s.heap.FunFrames X.base X.outer := by
  have all : ∀ (l : List Env), (∀ b ∈ frs l, b ∈ X.fs) → X.s₀.heap.FunFrames X.base l → s.heap.FunFrames X.base l := by
    intro l
    induction l with
    | nil => intro _ _; trivial
    | cons env r ih =>
      intro hs hl
      obtain ⟨hk, ⟨L, o, hf, hn, ho, hd⟩, hr⟩ := hl
      have hL : L ∈ X.fs := hs L (by unfold frs; rw [List.filterMap_cons, hf]; exact List.mem_cons_self)
      obtain ⟨sl, e⟩ := I.base.slot L o ho (I.ok.frf L hL) hL fun z => I.ok.exfs L z hL
      exact ⟨hk, ⟨L, _, hf, hn, e, hd⟩, ih (fun b hb => hs b (by unfold frs; rw [List.filterMap_cons, hf]; exact List.mem_cons_of_mem _ hb)) hr⟩
  exact all X.outer (fun _ hb => hb) I.ok.funs

/-- the frames that run, for a call -/
theorem Inv.stack (I : Inv X pins σ H s) : s.heap.FunFrames X.base X.stack := by
  rcases I.ok.stk with e | ⟨e, hf⟩
  · rw [e]; exact I.funs
  · rw [e]
    obtain ⟨m, hn, _⟩ := I.loc
    refine .cons (by rw [I.ok.kind]; decide) hf hn ?_ I.funs
    exact Heap.get?_none_of_le (Nat.le_trans I.ok.bsz I.ok.above)
theorem Inv.stkSub (I : Inv X pins σ H s) : ∀ b ∈ frs X.stack, b ∈ X.env.locals :: X.fs := fun b hb => by
  rcases I.ok.stk with e | ⟨e, hf⟩
  · rw [e] at hb; exact List.mem_cons_of_mem _ hb
  · rw [e] at hb
    unfold frs at hb
    rw [List.filterMap_cons, hf] at hb
    exact hb
theorem Inv.stkFree (I : Inv X pins σ H s) : ∀ b ∈ frs X.stack, H b = none := fun b hb => by
  rcases List.mem_cons.mp (I.stkSub b hb) with e | hb
  · rw [e]; exact I.free
  · obtain ⟨_, o, ho, _⟩ := I.ok.funs.mem hb
    exact I.base.free b o ho (I.ok.frf b hb) fun z => I.ok.exfs b z hb

/-- THE STEP: the untracked objects but the frame and the records at ch are kept (the callers' frames up to slots), the frame's map is kept, the new abstract heap is held -/
theorem Inv.step {g' : Array GenState} {t' : Nat} {d' : Drawn} {ch : List Addr} (I : Inv X pins σ H s)
    (hch : ∀ b ∈ ch, (b ∈ X.ex ∨ X.s₀.heap.objs.size ≤ b) ∧ b ≠ X.env.locals ∧ (∀ x c, X.env.cells.lookup x = some c → c ≠ b) ∧ ∀ p ∈ X.pn ++ pins, p.1 ≠ b)
    (keep : ∀ b o, b ≠ X.env.locals → b ∉ X.fs → b ∉ ch → s.heap.get? b = some o → H b = none → h'.get? b = some o)
    (slot : ∀ b o, b ≠ X.env.locals → b ∈ X.fs → b ∉ ch → s.heap.get? b = some o → H b = none → ∃ sl, h'.get? b = some { o with slots := sl }) (free : ∀ b o, b ∉ ch → s.heap.get? b = some o → H b = none → H' b = none)
    (there : ∀ b o, b ∉ ch → s.heap.get? b = some o → ∃ o', h'.get? b = some o')
    (tups : ∀ b xs, H b = some (.tup xs) → H' b = some (.tup xs)) (frzs : ∀ b o u, H b = some (.frz o u) → H' b = some (.frz o u)) (tbls : ∀ b ps, H b = some (.tbl ps) → ∃ more, H' b = some (.tbl (ps ++ more)))
    (ns : ∀ m, s.heap.Ns X.env.locals m → h'.Ns X.env.locals m) (hok : HOk X.prog X.w H' h') (hg : AllBare g') :
    Inv X pins σ H' { s with heap := h', gens := g', drawn := d', toks := t' } := by
  have neL : ∀ b o, X.s₀.heap.get? b = some o → b ≠ X.env.locals := fun b o e => Nat.ne_of_lt (Nat.lt_of_lt_of_le (Heap.lt_size e) I.ok.above)
  have neC : ∀ b o, X.s₀.heap.get? b = some o → b ∉ X.ex → b ∉ ch := fun b o e hx hb => by
    rcases (hch b hb).1 with z | z
    · exact hx z
    · exact absurd (Nat.lt_of_lt_of_le (Heap.lt_size e) z) (Nat.lt_irrefl _)
  have cellK : ∀ x c, X.env.cells.lookup x = some c → ∀ v, s.heap.IsCell c v → h'.IsCell c v := fun x c e v ⟨o, ho, hd⟩ => by
    have nch : c ∉ ch := fun z => (hch c z).2.2.1 x c e rfl
    by_cases hc : c ∈ X.fs
    · obtain ⟨sl, q⟩ := slot c o (I.cne x c e) hc nch ho (I.freeC x c e)
      exact ⟨_, q, hd⟩
    · exact ⟨o, keep c o (I.cne x c e) hc nch ho (I.freeC x c e), hd⟩
  refine ⟨I.ok, I.os, hg, ⟨fun b o e n hb hx => ?_, fun b o e n hb hx => ?_, fun b o e n hx => ?_, fun b o e hx => ?_, fun b xs e => tups b xs (I.base.tups b xs e), fun b o xs e => frzs b o xs (I.base.frzs b o xs e), fun b ps e => ?_⟩, ?_, fun x c e => ?_, ?_, fun x c e => ?_, fun p hp => ?_, hok, I.len⟩
  · exact keep b o (neL b o e) hb (neC b o e hx) (I.base.keep b o e n hb hx) (I.base.free b o e n hx)
  · obtain ⟨sl, e1⟩ := I.base.slot b o e n hb hx
    obtain ⟨sl', e2⟩ := slot b _ (neL b o e) hb (neC b o e hx) e1 (I.base.free b o e n hx)
    exact ⟨sl', e2⟩
  · obtain ⟨o', e1⟩ := I.base.there b o e hx
    exact free b o' (neC b o e hx) e1 (I.base.free b o e n hx)
  · obtain ⟨o', e1⟩ := I.base.there b o e hx
    exact there b o' (neC b o e hx) e1
  · obtain ⟨m1, e1⟩ := I.base.tbls b ps e
    obtain ⟨m2, e2⟩ := tbls b _ e1
    exact ⟨m1 ++ m2, by rw [e2, Array.append_assoc]⟩
  · obtain ⟨m, hn, hl⟩ := I.loc
    refine ⟨m, ns m hn, fun i x v e1 e2 e3 => ?_⟩
    obtain ⟨u, r, l⟩ := hl i x v e1 e2 e3
    refine ⟨u, r, ?_⟩
    rcases l with l | ⟨k, c, e, z⟩
    · exact .inl l
    · exact .inr ⟨k, c, e, cellK x c e _ z⟩
  · obtain ⟨v, z⟩ := I.cell x c e
    exact ⟨v, cellK x c e v z⟩
  · obtain ⟨m, ⟨o, _, _, ho, _⟩, _⟩ := I.loc
    exact free _ o (fun z => (hch _ z).2.1 rfl) ho I.free
  · obtain ⟨v, o, ho, hd⟩ := I.cell x c e
    exact free c o (fun z => (hch c z).2.2.1 x c e rfl) ho (I.freeC x c e)
  · obtain ⟨e, n, ne, nf, d⟩ := I.pin p hp
    have nch : p.1 ∉ ch := fun z => (hch p.1 z).2.2.2 p hp rfl
    exact ⟨keep p.1 p.2 ne nf nch e n, free p.1 p.2 nch e n, ne, nf, d⟩
/-- .. where the frame's own object is kept too -/
theorem Inv.un {t' : Nat} (I : Inv X pins σ H s) (u : Un X.fs [] H H' s.heap h') (hok : HOk X.prog X.w H' h') : Inv X pins σ H' { s with heap := h', toks := t' } := by
  obtain ⟨m, ⟨o, es, ep, ho, r⟩, _⟩ := id I.loc
  obtain ⟨sl, hL⟩ := u.any ho I.free (by simp)
  exact I.step (g' := s.gens) (d' := s.drawn) (ch := []) (fun _ z => nomatch z) (fun b o _ hb _ e n => u.keep b o e n hb (by simp)) (fun b o _ hb _ e n => u.slot b o e n hb (by simp)) (fun b o _ e n => u.free b o e n (by simp)) (fun b o _ e => u.there b o e (by simp)) u.tups u.frzs u.tbls (fun m' hm => by
    obtain ⟨o', es', ep', ho', r'⟩ := hm
    rw [ho] at ho'; cases ho'
    exact ⟨_, es', ep', hL, r'⟩) hok I.bare
/-- behind a call (or a comprehension's block): the slots of this frame may have changed too, the records at ch may have turned -/
theorem Inv.call {g' : Array GenState} {t' : Nat} {d' : Drawn} {ch : List Addr} (I : Inv X pins σ H s) (u : Un (frs X.stack) ch H H' s.heap h') (hok : HOk X.prog X.w H' h') (hg : AllBare g')
    (hch : ∀ b ∈ ch, (b ∈ X.ex ∨ X.s₀.heap.objs.size ≤ b) ∧ b ≠ X.env.locals ∧ (∀ x c, X.env.cells.lookup x = some c → c ≠ b) ∧ ∀ p ∈ X.pn ++ pins, p.1 ≠ b) :
    Inv X pins σ H' { s with heap := h', gens := g', drawn := d', toks := t' } := by
  obtain ⟨m, ⟨o, es, ep, ho, r⟩, _⟩ := id I.loc
  obtain ⟨sl, hL⟩ := u.any ho I.free fun z => (hch _ z).2.1 rfl
  exact I.step (ch := ch) hch (fun b o hL hb hc e n => u.keep b o e n (fun z => (List.mem_cons.mp (I.stkSub b z)).elim hL hb) hc) (fun b o _ _ hc e n => u.any e n hc) (fun b o hc e n => u.free b o e n hc) (fun b o hc e => u.there b o e hc) u.tups u.frzs u.tbls (fun m' hm => by
    obtain ⟨o', es', ep', ho', r'⟩ := hm
    rw [ho] at ho'; cases ho'
    exact ⟨_, es', ep', hL, r'⟩) hok hg
/-- an untracked record of ours (an iterator) has turned -/
theorem Inv.turned {t' : Nat} {it : Addr} (I : Inv X pins σ H s) (k : ∀ b o, b ≠ it → s.heap.get? b = some o → h'.get? b = some o) (hn : H it = none) (hL : it ≠ X.env.locals)
    (h1 : it ∈ X.ex ∨ X.s₀.heap.objs.size ≤ it) (h2 : ∀ x c, X.env.cells.lookup x = some c → c ≠ it) (h3 : ∀ p ∈ X.pn ++ pins, p.1 ≠ it) : Inv X pins σ H { s with heap := h', toks := t' } := by
  have nit : ∀ b u, H b = some u → b ≠ it := fun b u e z => by rw [z, hn] at e; cases e
  refine I.step (g' := s.gens) (d' := s.drawn) (ch := [it]) (fun b hb => ?_) (fun b o _ _ hc e _ => k b o (fun z => hc (by simp [z])) e) (fun b o _ _ hc e _ => ⟨o.slots, k b o (fun z => hc (by simp [z])) e⟩) (fun _ _ _ _ n => n)
    (fun b o hc e => ⟨o, k b o (fun z => hc (by simp [z])) e⟩) (fun _ _ e => e) (fun _ _ _ e => e) (fun b ps e => ⟨#[], by rw [e]; simp⟩) (fun m hm => ?_) (fun b u e => ?_) I.bare
  · have e : b = it := by simpa using hb
    subst e
    exact ⟨h1, hL, h2, h3⟩
  · obtain ⟨o, es, ep, ho, r⟩ := hm
    exact ⟨o, es, ep, k _ o (Ne.symm hL) ho, r⟩
  · refine (I.hok b u e).stay (fun c v hc q => k c v ?_ q) (fun _ q => q) fun _ _ q => q
    rcases hc with z | z
    · rw [z]; exact nit b u e
    · exact nit c _ z
theorem Inv.tok (I : Inv X pins σ H s) (t : Nat) : Inv X pins σ H { s with toks := t } := I.un (h' := s.heap) (t' := t) Un.refl I.hok
/-- all objects kept -/
theorem Inv.kept {t' : Nat} (I : Inv X pins σ H s) (k : ∀ b u, s.heap.get? b = some u → h'.get? b = some u) : Inv X pins σ H { s with heap := h', toks := t' } := I.un (Un.kept k) (I.hok.kept k)
/-- a new object laid and tracked -/
theorem Inv.laid {a : Addr} {o : HO} {t' : Nat} (I : Inv X pins σ H s) (k : ∀ b u, s.heap.get? b = some u → h'.get? b = some u) (hp : s.heap.objs.size ≤ a) (new : ObjOk X.prog X.w (upd H a o) h' a o) :
    Inv X pins σ (upd H a o) { s with heap := h', toks := t' } := I.un (Un.laid k hp (I.hok.fresh hp)) (I.hok.laid k hp new)
/-- an object written -/
theorem Inv.write {x e : Addr} {o : HO} {t' : Nat} (I : Inv X pins σ H s) (mu : Mut (H x)) (he : e = x ∨ H e = some (.own x)) (k : ∀ b u, b ≠ e → s.heap.get? b = some u → h'.get? b = some u) (heo : ∃ u, h'.get? e = some u)
    (new : ObjOk X.prog X.w (upd H x o) h' x o) : Inv X pins σ (upd H x o) { s with heap := h', toks := t' } := I.un (Un.write mu he k heo) (I.hok.write mu he k heo new)
/-- forgetting slots, pins -/
theorem Inv.weak {σ' : List (Option V)} (I : Inv X pins σ H s) (hl : σ'.length = σ.length) (w : ∀ (i : Nat) v, σ'[i]? = some (some v) → σ[i]? = some (some v)) : Inv X pins σ' H s :=
  ⟨I.ok, I.os, I.bare, I.base, let ⟨m, hn, hl'⟩ := I.loc; ⟨m, hn, fun i x v e1 e2 e3 => hl' i x v e1 (w i v e2) e3⟩, I.cell, I.free, I.freeC, I.pin, I.hok, hl.trans I.len⟩
theorem Inv.pins_of {pins' : List (Addr × Obj)} (I : Inv X pins σ H s) (h : ∀ p ∈ pins', s.heap.get? p.1 = some p.2 ∧ H p.1 = none ∧ p.1 ≠ X.env.locals ∧ p.1 ∉ X.fs ∧ ∀ v, p.2.data ≠ .cell v) : Inv X pins' σ H s :=
  ⟨I.ok, I.os, I.bare, I.base, I.loc, I.cell, I.free, I.freeC, fun p hp => (List.mem_append.mp hp).elim (fun z => I.pin p (List.mem_append_left _ z)) (h p), I.hok, I.len⟩

theorem nodup_ix {N : List Str} (hN : N.Nodup) {i j : Nat} {x : Str} (a : N[i]? = some x) (b : N[j]? = some x) : i = j := by
  obtain ⟨h1, e1⟩ := List.getElem?_eq_some_iff.mp a
  obtain ⟨h2, e2⟩ := List.getElem?_eq_some_iff.mp b
  exact (List.getElem_inj hN).mp (e1.trans e2.symm)

/-- a name is stored; what changed -/
theorem store_ok2 {M : Model} {A : Around} {E : Value → Shared → Prop} {i : Nat} {x : Str} {v : V} {u : Value} {Q : Unit → Shared → Prop} (I : Inv X pins σ H s) (hN : X.N.Nodup) (hi : X.N[i]? = some x) (hx : Loc X.env.scope x) (r : RelV v u)
    (h : ∀ s', Inv X pins (σ.set i (some v)) H s' → (∃ a, Heap.SameBut a s.heap s'.heap ∧ (a = X.env.locals ∨ X.env.cells.lookup x = some a)) → Q () s') (hf : X.fn x = true ∨ X.env.scope.names.lookup x = some .local := by first | exact .inl rfl | exact .inr rfl | assumption) : wpAny M A (storeName X.env x u) Q E s := by
  obtain ⟨m, hn, hl⟩ := id I.loc
  have hcls : (X.env.scope.kind == .class || (X.env.scope.kind == .module && X.env.locals != X.env.globals)) = false := by rw [I.ok.kind]; rfl
  have hiσ : i < σ.length := by rw [I.len]; exact (List.getElem?_eq_some_iff.mp hi).1
  have cne := I.cne
  have tracked : ∀ {a : Addr} {h' : Heap}, (∃ o, s.heap.get? a = some o ∧ H a = none) → Heap.SameBut a s.heap h' → HOk X.prog X.w H h' := fun {a h'} ha hs b ob e => by
    obtain ⟨_, _, hfree⟩ := ha
    refine (I.hok b ob e).stay (fun c w' hc q => (hs.2 c ?_).trans q) (fun _ q => q) fun _ _ q => q
    rintro rfl
    rcases hc with rfl | hc
    · rw [hfree] at e; cases e
    · rw [hfree] at hc; cases hc
  rcases hx with hk | hk
  · refine wpAny_storeName_local hk hn (fun h' hn' hs => ?_) hcls
    obtain ⟨oL, _, _, hoL, _⟩ := id hn
    refine h _ ⟨I.ok, I.os, I.bare, ⟨fun b o e n hb hx => ?_, fun b o e n hb hx => ?_, I.base.free, fun b o e hx => ?_, I.base.tups, I.base.frzs, I.base.tbls⟩, ⟨_, hn', fun j y v' e1 e2 e3 => ?_⟩, fun y c e => ?_, I.free, I.freeC, fun p hp => ?_, tracked ⟨oL, hoL, I.free⟩ hs, by simpa using I.len⟩ ⟨_, hs, .inl rfl⟩
    · exact (hs.2 b (Nat.ne_of_lt (Nat.lt_of_lt_of_le (Heap.lt_size e) I.ok.above))).trans (I.base.keep b o e n hb hx)
    · obtain ⟨sl, e1⟩ := I.base.slot b o e n hb hx
      exact ⟨sl, (hs.2 b (Nat.ne_of_lt (Nat.lt_of_lt_of_le (Heap.lt_size e) I.ok.above))).trans e1⟩
    · obtain ⟨o', e1⟩ := I.base.there b o e hx
      exact ⟨o', (hs.2 b (Nat.ne_of_lt (Nat.lt_of_lt_of_le (Heap.lt_size e) I.ok.above))).trans e1⟩
    · by_cases hj : j = i
      · subst hj
        rw [hi] at e1; cases e1
        rw [List.getElem?_set_self hiσ] at e2
        cases e2
        exact ⟨u, r, .inl ⟨hk, by simp⟩⟩
      · rw [List.getElem?_set_ne (Ne.symm hj)] at e2
        obtain ⟨u', r', q⟩ := hl j y v' e1 e2 e3
        refine ⟨u', r', ?_⟩
        rcases q with ⟨k, e⟩ | ⟨k, c, e, z⟩
        · refine .inl ⟨k, ?_⟩
          have : y ≠ x := fun e => hj (nodup_ix hN e1 (e ▸ hi))
          simp [this, e]
        · exact .inr ⟨k, c, e, z.sameBut hs (cne y c e)⟩
    · obtain ⟨w', z⟩ := I.cell y c e
      exact ⟨w', z.sameBut hs (cne y c e)⟩
    · obtain ⟨e, n, ne, nf, d⟩ := I.pin p hp
      exact ⟨(hs.2 p.1 ne).trans e, n, ne, nf, d⟩
  · have hfn : X.fn x = true := by
      rcases hf with z | z
      · exact z
      · rw [z] at hk; cases hk
    obtain ⟨c, hc⟩ := I.ok.has x (.inl hk)
    obtain ⟨w', z⟩ := I.cell x c hc
    refine wpAny_storeName_cell I.ok.kind hk hc z (fun h' hc' hs => ?_)
    obtain ⟨oc, hoc, hocd⟩ := id z
    refine h { s with heap := h' } ⟨I.ok, I.os, I.bare, ⟨fun b o e n hb hx => ?_, fun b o e n hb hx => ?_, I.base.free, fun b o e hx => ?_, I.base.tups, I.base.frzs, I.base.tbls⟩, ⟨m, hn.sameBut hs (Ne.symm (cne x c hc)), fun j y v' e1 e2 e3 => ?_⟩, fun y c' e => ?_, I.free, I.freeC, fun p hp => ?_, tracked ⟨oc, hoc, I.freeC x c hc⟩ hs, by simpa using I.len⟩ ⟨c, hs, .inr hc⟩
    · exact (hs.2 b (Nat.ne_of_lt (Nat.lt_of_lt_of_le (Heap.lt_size e) (I.ok.cab x c hfn hc)))).trans (I.base.keep b o e n hb hx)
    · obtain ⟨sl, e1⟩ := I.base.slot b o e n hb hx
      exact ⟨sl, (hs.2 b (Nat.ne_of_lt (Nat.lt_of_lt_of_le (Heap.lt_size e) (I.ok.cab x c hfn hc)))).trans e1⟩
    · obtain ⟨o', e1⟩ := I.base.there b o e hx
      exact ⟨o', (hs.2 b (Nat.ne_of_lt (Nat.lt_of_lt_of_le (Heap.lt_size e) (I.ok.cab x c hfn hc)))).trans e1⟩
    · by_cases hj : j = i
      · subst hj
        rw [hi] at e1; cases e1
        rw [List.getElem?_set_self hiσ] at e2
        cases e2
        exact ⟨u, r, .inr ⟨.inl hk, c, hc, hc'⟩⟩
      · rw [List.getElem?_set_ne (Ne.symm hj)] at e2
        obtain ⟨u', r', q⟩ := hl j y v' e1 e2 e3
        refine ⟨u', r', ?_⟩
        rcases q with q | ⟨k, c', e, z'⟩
        · exact .inl q
        · refine .inr ⟨k, c', e, z'.sameBut hs ?_⟩
          rintro rfl
          exact hj (nodup_ix hN e1 (I.ok.inj _ _ _ e hc ▸ hi))
    · by_cases hcc : c' = c
      · subst hcc; exact ⟨_, hc'⟩
      · obtain ⟨w2, z2⟩ := I.cell y c' e
        exact ⟨w2, z2.sameBut hs hcc⟩
    · obtain ⟨e, n, ne, nf, d⟩ := I.pin p hp
      refine ⟨(hs.2 p.1 ?_).trans e, n, ne, nf, d⟩
      intro q
      rw [q, hoc] at e
      have q' : oc = p.2 := Option.some.inj e
      exact d w' (by rw [← q']; exact hocd)
theorem store_ok {M : Model} {A : Around} {E : Value → Shared → Prop} {i : Nat} {x : Str} {v : V} {u : Value} {Q : Unit → Shared → Prop} (I : Inv X pins σ H s) (hN : X.N.Nodup) (hi : X.N[i]? = some x) (hx : Loc X.env.scope x) (r : RelV v u)
    (h : ∀ s', Inv X pins (σ.set i (some v)) H s' → Q () s') (hf : X.fn x = true ∨ X.env.scope.names.lookup x = some .local := by first | exact .inl rfl | exact .inr rfl | assumption) : wpAny M A (storeName X.env x u) Q E s :=
  store_ok2 I hN hi hx r (fun s' I' _ => h s' I') hf
/-- behind a call or a block, the state as it is -/
theorem Inv.call' {s' : Shared} {ch : List Addr} (I : Inv X pins σ H s) (ho : s'.os = s.os) (u : Un (frs X.stack) ch H H' s.heap s'.heap) (hok : HOk X.prog X.w H' s'.heap) (hg : AllBare s'.gens)
    (hch : ∀ b ∈ ch, (b ∈ X.ex ∨ X.s₀.heap.objs.size ≤ b) ∧ b ≠ X.env.locals ∧ (∀ x c, X.env.cells.lookup x = some c → c ≠ b) ∧ ∀ p ∈ X.pn ++ pins, p.1 ≠ b) : Inv X pins σ H' s' := by
  obtain ⟨h', g', d', t', o'⟩ := s'
  have e : o' = s.os := ho
  subst e
  exact I.call (g' := g') (t' := t') (d' := d') u hok hg hch
end

/-! ### the judgements -/
/-- an exception: its class, its own dict's address (where it has one), the abstract heap behind it -/
abbrev XK := Value → Option Addr → Hp → Prop
abbrev St := List (Option V)
abbrev VK := V → Hp → Prop
/-- an expression's reading; a test's; an argument list's -/
abbrev TE := St → Hp → VK → Prop
abbrev TT := St → Hp → (Bool → Hp → Prop) → Prop
abbrev TA := St → Hp → (List V → Hp → Prop) → Prop
/-- what is wanted behind a statement -/
structure Ends where
  nx : St → Hp → Prop
  rt : VK
  bk : St → Hp → Prop := fun _ _ => False
  ct : St → Hp → Prop := fun _ _ => False
abbrev TS := Ends → St → Hp → Prop

def EP (X : Cx) (pins : List (Addr × Obj)) (σ : St) (Q : VK) (u : Value) (s' : Shared) : Prop := ∃ v H', Inv X pins σ H' s' ∧ RelV v u ∧ Q v H'
def TP (X : Cx) (pins : List (Addr × Obj)) (σ : St) (Q : Bool → Hp → Prop) (b : Bool) (s' : Shared) : Prop := ∃ H', Inv X pins σ H' s' ∧ Q b H'
def AP (X : Cx) (pins : List (Addr × Obj)) (σ : St) (Q : List V → Hp → Prop) (us : List Value) (s' : Shared) : Prop := ∃ vs H', Inv X pins σ H' s' ∧ Vals vs us ∧ Q vs H'
def SP (X : Cx) (pins : List (Addr × Obj)) (D : Ends) (f : Flow) (s' : Shared) : Prop :=
  match f with
  | .next => ∃ σ' H', Inv X pins σ' H' s' ∧ D.nx σ' H'
  | .brk => ∃ σ' H', Inv X pins σ' H' s' ∧ D.bk σ' H'
  | .cont => ∃ σ' H', Inv X pins σ' H' s' ∧ D.ct σ' H'
  | .ret u => ∃ v σ' H', Inv X pins σ' H' s' ∧ RelV v u ∧ D.rt v H'

def PE (X : Cx) (e : Expr) (t : TE) : Prop :=
  ∀ (pins : List (Addr × Obj)) (s : Shared) (σ : St) (H : Hp) (Q : VK), Inv X pins σ H s → t σ H Q → wpAny (model X.prog X.w) X.A (eval e X.env) (EP X pins σ Q) X.xe s
def PT (X : Cx) (e : Expr) (t : TT) : Prop :=
  ∀ (pins : List (Addr × Obj)) (s : Shared) (σ : St) (H : Hp) (Q : Bool → Hp → Prop), Inv X pins σ H s → t σ H Q → wpAny (model X.prog X.w) X.A (isTrue e X.env (eval e X.env)) (TP X pins σ Q) X.xe s
/-- a test whatever its 'whole' is (and, or) -/
def PW (X : Cx) (e : Expr) (t : TT) : Prop :=
  ∀ (whole : Sem Value) (pins : List (Addr × Obj)) (s : Shared) (σ : St) (H : Hp) (Q : Bool → Hp → Prop), Inv X pins σ H s → t σ H Q → wpAny (model X.prog X.w) X.A (isTrue e X.env whole) (TP X pins σ Q) X.xe s
theorem PW.pt {X : Cx} {e : Expr} {t : TT} (h : PW X e t) : PT X e t := h _
/-- an argument list (no star), from the left -/
def PA (X : Cx) (es : List Expr) (t : TA) : Prop :=
  ∀ (pos : Pos) (pins : List (Addr × Obj)) (s : Shared) (σ : St) (H : Hp) (Q : List V → Hp → Prop), Inv X pins σ H s → t σ H Q → wpAny (model X.prog X.w) X.A (spliced (backTo pos (starEach es X.env))) (AP X pins σ Q) X.xe s
def PS (X : Cx) (st : Stmt) (t : TS) : Prop :=
  ∀ (pins : List (Addr × Obj)) (s : Shared) (σ : St) (H : Hp) (D : Ends), Inv X pins σ H s → t D σ H → wpAny (model X.prog X.w) X.A (exec st X.env) (SP X pins D) X.xe s
def PSs (X : Cx) (st : List Stmt) (t : TS) : Prop :=
  ∀ (pins : List (Addr × Obj)) (s : Shared) (σ : St) (H : Hp) (D : Ends), Inv X pins σ H s → t D σ H → wpAny (model X.prog X.w) X.A (execs st X.env) (SP X pins D) X.xe s
/-- weaken the end -/
theorem thn {α : Type} {t : Sem α} {Q Q' : α → Shared → Prop} {M : Model} {A : Around} {E : Value → Shared → Prop} {s : Shared} (h : wpAny M A t Q E s) (hQ : ∀ a s, Q a s → Q' a s) : wpAny M A t Q' E s := wpAny_mono h hQ fun _ _ x => x
end L2

namespace L2
open PySem PySem.Spec PyProof.Rows
section
variable {X : Cx}

/-! ### names and constants -/
def tVar (i : Nat) : TE := fun σ H Q => ∃ v, σ[i]? = some (some v) ∧ Q v H
def tC (v : V) : TE := fun _ H Q => Q v H
theorem pe_var {i : Nat} {x : Str} {pos : Pos} (hN : X.N[i]? = some x) (hv : Vis X.env.scope x) (hd : (x == ("__debug__" : Str)) = false := by decide) (hcd : (x == ("__classdict__" : Str)) = false := by decide) : PE X (.Name x pos) (tVar i) := by
  intro pins s σ H Q I h
  obtain ⟨v, e, h⟩ := h
  obtain ⟨m, hn, hl⟩ := I.loc
  obtain ⟨u, r, l⟩ := hl i x v hN e hv
  have fin : EP X pins σ Q u s := ⟨v, H, I, r, h⟩
  rcases l with ⟨hk, hm⟩ | ⟨hk, c, hc, hcell⟩
  · exact wpAny_Name (wpAny_loadName_local I.ok.kind hk hn hm fin) hd
  · rcases hk with hk | hk
    · exact wpAny_Name (wpAny_loadName_cell I.ok.kind hk hc hcell fin) hd
    · exact wpAny_Name (wpAny_loadName_free I.ok.kind hk hc hcell fin hcd) hd
theorem pe_int {i j pos} : PE X (.Constant (.int i) j pos) (tC (.int i)) := fun _ _ _ H _ I h => wpAny_Constant_int ⟨.int i, H, I.tok _, ⟨_, rfl⟩, h⟩
theorem pe_bl {b j pos} : PE X (.Constant (.bool b) j pos) (tC (.bl b)) := fun _ _ _ H _ I h => Constant_bool ⟨.bl b, H, I, rfl, h⟩
theorem pe_non {j pos} : PE X (.Constant .none j pos) (tC .non) := fun _ _ _ H _ I h => Constant_none ⟨.non, H, I, rfl, h⟩
theorem pe_str {x j pos} : PE X (.Constant (.str x) j pos) (tC (.str x)) := fun _ _ _ H _ I h => Calls.Constant_str ⟨.str x, H, I.tok _, ⟨_, rfl⟩, h⟩

/-- a global name of the def -/
def Gl (X : Cx) (x : Str) : Prop := X.env.kindOf x = some .globalImplicit
theorem ld_glob {E : Value → Shared → Prop} {pins : List (Addr × Obj)} {s : Shared} {σ : St} {H : Hp} {x : Str} {u : Value} {pos : Pos} {Q : Value → Shared → Prop} (I : Inv X pins σ H s) (hg : Gl X x) (hm : X.mg x = some u) (h : Q u s)
    (hd : (x == ("__debug__" : Str)) = false := by decide) : wpAny (model X.prog X.w) X.A (eval (.Name x pos) X.env) Q E s :=
  Calls.Name_function_global I.ok.kind hg (Calls.loadGlobal_global (by rw [I.ok.glob]; exact I.mod.glob.keeps I.bk) hm h) hd
theorem ld_blt {E : Value → Shared → Prop} {pins : List (Addr × Obj)} {s : Shared} {σ : St} {H : Hp} {x : Str} {u : Value} {pos : Pos} {Q : Value → Shared → Prop} (I : Inv X pins σ H s) (hg : Gl X x) (hm : X.mg x = none) (hv : bootBuiltins x = some u) (h : Q u s)
    (hn : x ≠ "__name__" := by decide) (hd : (x == ("__debug__" : Str)) = false := by decide) : wpAny (model X.prog X.w) X.A (eval (.Name x pos) X.env) Q E s := by
  obtain ⟨mb, h1, h2⟩ := I.mod.blt
  exact Calls.Name_function_global I.ok.kind hg (Calls.loadGlobal_builtin (by rw [I.ok.glob]; exact I.mod.glob.keeps I.bk) hm (by rw [I.ok.blt]; exact h1.keeps I.bk) ((h2 x hn).trans hv) h) hd
/-- a module's constant, a class, a function, as a value -/
theorem pe_glob {x : Str} {v : V} {u : Value} {pos : Pos} (hg : Gl X x) (hm : X.mg x = some u) (r : RelV v u) (hd : (x == ("__debug__" : Str)) = false := by decide) : PE X (.Name x pos) (tC v) :=
  fun _ _ _ H _ I h => ld_glob I hg hm ⟨v, H, I, r, h⟩ hd
theorem pe_bltn {x : Str} {v : V} {u : Value} {pos : Pos} (hg : Gl X x) (hm : X.mg x = none) (hv : bootBuiltins x = some u) (r : RelV v u) (hn : x ≠ "__name__" := by decide) (hd : (x == ("__debug__" : Str)) = false := by decide) : PE X (.Name x pos) (tC v) :=
  fun _ _ _ H _ I h => ld_blt I hg hm hv ⟨v, H, I, r, h⟩ hn hd

/-! ### arithmetic -/
/-- two ints -/
def t2I (ta tb : TE) (k : Int → Int → Hp → Prop) : St → Hp → Prop := fun σ H => ta σ H fun x H1 => tb σ H1 fun y H2 => ∃ i j, x = .int i ∧ y = .int j ∧ k i j H2
def tAdd (ta tb : TE) : TE := fun σ H Q => t2I ta tb (fun i j H2 => Q (.int (i + j)) H2) σ H
def tSub (ta tb : TE) : TE := fun σ H Q => t2I ta tb (fun i j H2 => Q (.int (i - j)) H2) σ H
/-- the left factor below 2^64 -/
def tMul (ta tb : TE) : TE := fun σ H Q => t2I ta tb (fun i j H2 => (-(2 ^ 64) < i ∧ i < 2 ^ 64) ∧ Q (.int (i * j)) H2) σ H
variable {a b : Expr} {ta tb : TE} {pos : Pos}
/-! ### comparisons -/
def PC (X : Cx) (op : CmpOp) (a b : Expr) (t : TE) : Prop :=
  ∀ (pins : List (Addr × Obj)) (s : Shared) (σ : St) (H : Hp) (Q : VK), Inv X pins σ H s → t σ H Q →
    wpAny (model X.prog X.w) X.A (eval a X.env) (fun v s₁ => wpAny (model X.prog X.w) X.A (eval b X.env) (fun u s₂ => wpAny (model X.prog X.w) X.A (compareOp op v u) (EP X pins σ Q) X.xe s₂) X.xe s₁) X.xe s
theorem nobehind (b : Expr) {op : CmpOp} (h : op ≠ .In) (h2 : op ≠ .NotIn) : behindInMarks op b = false := by
  have e1 : (op == CmpOp.In) = false := by cases op <;> first | rfl | exact absurd rfl h
  have e2 : (op == CmpOp.NotIn) = false := by cases op <;> first | rfl | exact absurd rfl h2
  cases b <;> simp [behindInMarks, e1, e2]
def tCmp (p : Int → Int → Bool) (ta tb : TE) : TE := fun σ H Q => t2I ta tb (fun i j H2 => Q (.bl (p i j)) H2) σ H
abbrev tLt : TE → TE → TE := tCmp fun i j => decide (i < j)
abbrev tLe : TE → TE → TE := tCmp fun i j => decide (i ≤ j)
abbrev tGt : TE → TE → TE := tCmp fun i j => decide (j < i)
abbrev tGe : TE → TE → TE := tCmp fun i j => decide (j ≤ i)
abbrev tEqI : TE → TE → TE := tCmp fun i j => decide (i = j)
abbrev tNeI : TE → TE → TE := tCmp fun i j => !decide (i = j)
/-- is None -/
def tIsN (ta : TE) : TE := fun σ H Q => ta σ H fun x H1 => Q (.bl (decide (x = .non))) H1
def tNotN (ta : TE) : TE := fun σ H Q => ta σ H fun x H1 => Q (.bl (!decide (x = .non))) H1
theorem RelV.none_iff {x : V} {v : Value} (r : RelV x v) : (v == Value.none) = decide (x = .non) := by
  cases x with
  | non => cases r; rfl
  | bl _ => cases r; rfl
  | int _ => obtain ⟨t, rfl⟩ := r; rfl
  | str _ => obtain ⟨t, rfl⟩ := r; rfl
  | byt _ => obtain ⟨t, rfl⟩ := r; rfl
  | flt _ => obtain ⟨t, rfl⟩ := r; rfl
  | ref _ => cases r; rfl
  | ty _ => cases r; rfl
theorem pc_isN {j pos'} (ha : PE X a ta) : PC X .Is a (.Constant .none j pos') (tIsN ta) := by
  intro pins s σ H Q I h
  refine thn (ha pins s σ H _ I h) fun v s1 ⟨x, H1, I1, r1, q1⟩ => ?_
  exact Constant_none (is_none_gen ⟨.bl _, H1, I1, by rw [r1.none_iff]; rfl, q1⟩)
/-- a comparison as a value, as a test -/
def tB (t : TE) : TT := fun σ H Q => t σ H fun x H1 => ∃ c, x = .bl c ∧ Q c H1
theorem pt_cmp {op : CmpOp} {t : TE} (h : PC X op a b t) (h1 : behindInMarks op b = false := by first | exact nobehind _ (by decide) (by decide) | rfl) : PT X (.Compare a [op] [b] pos) (tB t) := by
  intro pins s σ H Q I hw
  refine wpAny_isTrue_Compare1 (thn (h pins s σ H _ I hw) fun v s1 h1 => thn h1 fun u s2 h2 => thn h2 fun c s3 ⟨x, H1, I1, r1, q1⟩ => ?_) h1
  obtain ⟨d, rfl, q⟩ := q1
  cases r1
  exact wpAny_truthy_bool ⟨H1, I1, q⟩
/-- an expression whose value is a bool, as a test -/
theorem pt_val {e : Expr} {t : TE} (h : PE X e t) (he : ∀ whole, isTrue e X.env whole = (do let v ← whole; standAt e.pos; holding [v] (truthy v)) := by intro _; rfl) : PT X e (tB t) := by
  intro pins s σ H Q I hw
  refine isTrue_plain (thn (h pins s σ H _ I hw) fun v s1 ⟨x, H1, I1, r1, q1⟩ => ?_) (he _)
  obtain ⟨d, rfl, q⟩ := q1
  cases r1
  exact wpAny_truthy_bool ⟨H1, I1, q⟩

/-! ### and, or, not -/
variable {tA tB' : TT} {rest : List Expr}
def tAnd (t u : TT) : TT := fun σ H Q => t σ H fun c H1 => if c = true then u σ H1 Q else Q false H1
def tOr (t u : TT) : TT := fun σ H Q => t σ H fun c H1 => if c = true then Q true H1 else u σ H1 Q
def tNot (t : TT) : TT := fun σ H Q => t σ H fun c H1 => Q (!c) H1
theorem pw_and1 (ha : PT X a tA) : PW X (.BoolOp .And [a] pos) tA := by
  intro wh pins s σ H Q I h
  refine isTrue_and (thn (ha pins s σ H Q I h) fun c s1 e => ?_)
  cases c with
  | true => exact isTrue_and_nil e
  | false => exact e
theorem pw_or1 (ha : PT X a tA) : PW X (.BoolOp .Or [a] pos) tA := by
  intro wh pins s σ H Q I h
  refine isTrue_or (thn (ha pins s σ H Q I h) fun c s1 e => ?_)
  cases c with
  | false => exact isTrue_or_nil e
  | true => exact e
theorem pw_and (ha : PT X a tA) (hb : PW X (.BoolOp .And (b :: rest) pos) tB') : PW X (.BoolOp .And (a :: b :: rest) pos) (tAnd tA tB') := by
  intro wh pins s σ H Q I h
  refine isTrue_and (thn (ha pins s σ H _ I h) fun c s1 ⟨H1, I1, q1⟩ => ?_)
  cases c with
  | true => exact hb wh pins s1 σ H1 Q I1 q1
  | false => exact ⟨H1, I1, q1⟩
theorem pw_or (ha : PT X a tA) (hb : PW X (.BoolOp .Or (b :: rest) pos) tB') : PW X (.BoolOp .Or (a :: b :: rest) pos) (tOr tA tB') := by
  intro wh pins s σ H Q I h
  refine isTrue_or (thn (ha pins s σ H _ I h) fun c s1 ⟨H1, I1, q1⟩ => ?_)
  cases c with
  | true => exact ⟨H1, I1, q1⟩
  | false => exact hb wh pins s1 σ H1 Q I1 q1
theorem pt_not (ha : PT X a tA) : PT X (.UnaryOp .Not a pos) (tNot tA) := by
  intro pins s σ H Q I h
  exact isTrue_not (ha pins s σ H (fun c H1 => Q (!c) H1) I h)
/-- .. as values (bools) -/
def tAndV (ta tb : TE) : TE := fun σ H Q => ta σ H fun x H1 => ∃ c, x = .bl c ∧ if c = true then tb σ H1 Q else Q (.bl false) H1
def tOrV (ta tb : TE) : TE := fun σ H Q => ta σ H fun x H1 => ∃ c, x = .bl c ∧ if c = true then Q (.bl true) H1 else tb σ H1 Q
def tNotV (ta : TE) : TE := fun σ H Q => ta σ H fun x H1 => ∃ c, x = .bl c ∧ Q (.bl (!c)) H1
theorem pe_one {op} {t : TE} (h : PE X a t) : PE X (.BoolOp op [a] pos) t := fun pins s σ H Q I hw => BoolOp_one (h pins s σ H Q I hw)
theorem pe_and (ha : PE X a ta) (hb : PE X (.BoolOp .And (b :: rest) pos) tb) : PE X (.BoolOp .And (a :: b :: rest) pos) (tAndV ta tb) := by
  intro pins s σ H Q I h
  refine BoolOp_and (thn (ha pins s σ H _ I h) fun v s1 ⟨x, H1, I1, r1, q1⟩ => ?_)
  obtain ⟨c, rfl, q1⟩ := q1
  cases r1
  refine wpAny_truthy_bool ?_
  cases c with
  | true => exact hb pins s1 σ H1 Q I1 q1
  | false => exact ⟨.bl false, H1, I1, rfl, q1⟩
theorem pe_or (ha : PE X a ta) (hb : PE X (.BoolOp .Or (b :: rest) pos) tb) : PE X (.BoolOp .Or (a :: b :: rest) pos) (tOrV ta tb) := by
  intro pins s σ H Q I h
  refine BoolOp_or (thn (ha pins s σ H _ I h) fun v s1 ⟨x, H1, I1, r1, q1⟩ => ?_)
  obtain ⟨c, rfl, q1⟩ := q1
  cases r1
  refine wpAny_truthy_bool ?_
  cases c with
  | false => exact hb pins s1 σ H1 Q I1 q1
  | true => exact ⟨.bl true, H1, I1, rfl, q1⟩
theorem pe_not (ha : PE X a ta) : PE X (.UnaryOp .Not a pos) (tNotV ta) := by
  intro pins s σ H Q I h
  refine UnaryOp_ (thn (ha pins s σ H _ I h) fun v s1 ⟨x, H1, I1, r1, q1⟩ => ?_)
  obtain ⟨c, rfl, q1⟩ := q1
  cases r1
  exact not_of (wpAny_truthy_bool ⟨.bl (!c), H1, I1, rfl, q1⟩)
/-- a if t else b -/
def tIf (t : TT) (ta tb : TE) : TE := fun σ H Q => t σ H fun c H1 => if c = true then ta σ H1 Q else tb σ H1 Q
theorem pe_ifExp {c : Expr} (hc : PT X c tA) (ha : PE X a ta) (hb : PE X b tb) : PE X (.IfExp c a b pos) (tIf tA ta tb) := by
  intro pins s σ H Q I h
  refine wpAny_IfExp (thn (hc pins s σ H _ I h) fun d s1 ⟨H1, I1, q1⟩ => ?_)
  cases d with
  | true => exact ha pins s1 σ H1 Q I1 q1
  | false => exact hb pins s1 σ H1 Q I1 q1
end
end L2

namespace L2
open PySem PySem.Spec PyProof.Rows

/-! ### a list, a tuple that is read: tracked, frozen, or an object of the module -/
def SqL (K : PySem.W.Frag) (H : Hp) (a : Addr) (xs : List V) : Prop :=
  Rd H a (.lst xs) ∨
    ∃ (o : Obj) (its : Array Value) (n : Nat), K.lookup a = some o ∧ o.cls = .type "list" ∧ o.dict = none ∧ o.data = .seq its n ∧ its.size ≤ sizeLine ∧ Vals xs its.toList
def SqT (K : PySem.W.Frag) (H : Hp) (a : Addr) (xs : List V) : Prop :=
  Rd H a (.tup xs) ∨
    ∃ (o : Obj) (its : Array Value) (n : Nat), K.lookup a = some o ∧ o.cls = .type "tuple" ∧ o.data = .seq its n ∧ its.size ≤ sizeLine ∧ Vals xs its.toList
def absV : Value → Option V
  | .none => some .non
  | .bool b => some (.bl b)
  | .int i _ => some (.int i)
  | .str x _ => some (.str x)
  | .bytes b _ => some (.byt b)
  | .float b _ => some (.flt b)
  | .ref a => some (.ref a)
  | .type n => some (.ty n)
  | _ => none
theorem RelV.abs {x : V} {u : Value} (r : RelV x u) : absV u = some x := by
  cases x with
  | non => cases r; rfl
  | bl _ => cases r; rfl
  | int _ => obtain ⟨t, rfl⟩ := r; rfl
  | str _ => obtain ⟨t, rfl⟩ := r; rfl
  | byt _ => obtain ⟨t, rfl⟩ := r; rfl
  | flt _ => obtain ⟨t, rfl⟩ := r; rfl
  | ref _ => cases r; rfl
  | ty _ => cases r; rfl
theorem RelV.inj {x y : V} {u : Value} (r : RelV x u) (q : RelV y u) : x = y := Option.some.inj (r.abs.symm.trans q.abs)
theorem Vals.inj : ∀ {xs ys : List V} {us : List Value}, Vals xs us → Vals ys us → xs = ys
  | _, _, _, .nil, .nil => rfl
  | _, _, _, .cons r t, .cons r' t' => by rw [r.inj r', Vals.inj t t']
section
variable {X : Cx} {pins : List (Addr × Obj)} {σ : St} {H : Hp} {s : Shared} {a : Addr} {xs ys : List V}
theorem SqL.of {K : PySem.W.Frag} (h : H a = some (.lst xs)) : SqL K H a xs := .inl (.inl h)
theorem SqT.of {K : PySem.W.Frag} (h : H a = some (.tup xs)) : SqT K H a xs := .inl (.inl h)
theorem Inv.list (I : Inv X pins σ H s) (h : SqL X.K H a xs) : ∃ its : List Value, Vals xs its ∧ PlainL s.heap a its.toArray ∧ xs.length ≤ sizeLine := by
  rcases h with h | ⟨o, its, n, hk, hc, hd, hs, hz, r⟩
  · obtain ⟨z, its, n, r, e⟩ := h.ok I.hok
    exact ⟨its, r, ⟨_, n, e, rfl, rfl, rfl⟩, z⟩
  · refine ⟨its.toList, r, ⟨o, n, I.kIn a o hk, hc, hd, by simpa using hs⟩, ?_⟩
    have e := r.length
    simp only [Array.length_toList] at e
    omega
theorem Inv.tuple (I : Inv X pins σ H s) (h : SqT X.K H a xs) : ∃ its : List Value, Vals xs its ∧ IsTup s.heap a its.toArray ∧ xs.length ≤ sizeLine := by
  rcases h with h | ⟨o, its, n, hk, hc, hs, hz, r⟩
  · obtain ⟨z, its, r, p⟩ := h.ok I.hok
    exact ⟨its, r, p, z⟩
  · refine ⟨its.toList, r, ⟨o, I.kIn a o hk, hc, n, by simpa using hs⟩, ?_⟩
    have e := r.length
    simp only [Array.length_toList] at e
    omega
theorem Inv.list_inj (I : Inv X pins σ H s) (h : SqL X.K H a xs) (h' : SqL X.K H a ys) : xs = ys := by
  obtain ⟨its, r, ⟨o, n, e, _, _, d⟩, _⟩ := I.list h
  obtain ⟨its', r', ⟨o', n', e', _, _, d'⟩, _⟩ := I.list h'
  rw [e] at e'; cases e'
  rw [d] at d'
  injection d' with d1 _
  have : its = its' := by simpa using congrArg Array.toList d1
  subst this
  exact r.inj r'
theorem Inv.tuple_inj (I : Inv X pins σ H s) (h : SqT X.K H a xs) (h' : SqT X.K H a ys) : xs = ys := by
  obtain ⟨its, r, ⟨o, e, _, n, d⟩, _⟩ := I.tuple h
  obtain ⟨its', r', ⟨o', e', _, n', d'⟩, _⟩ := I.tuple h'
  rw [e] at e'; cases e'
  rw [d] at d'
  injection d' with d1 _
  have : its = its' := by simpa using congrArg Array.toList d1
  subst this
  exact r.inj r'
end

/-! ### another wish about exceptions -/
abbrev Cx.wish (X : Cx) (E : Value → Shared → Prop) : Cx := { X with xe := E }
/-- no exception leaves -/
abbrev Cx.nox (X : Cx) : Cx := X.wish fun _ _ => False
theorem Cx.Ok.wish {X : Cx} (ok : X.Ok) (E : Value → Shared → Prop) : (X.wish E).Ok :=
  ⟨ok.mod, ok.kind, ok.glob, ok.blt, ok.above, ok.inj, ok.has, ok.cab, ok.hd, ok.frames, ok.stk, ok.exf, ok.bs, ok.bsz, ok.noex, ok.exfs, ok.funs, ok.frf⟩
theorem Cx.Ok.unwish {X : Cx} {E : Value → Shared → Prop} (ok : (X.wish E).Ok) : X.Ok :=
  ⟨ok.mod, ok.kind, ok.glob, ok.blt, ok.above, ok.inj, ok.has, ok.cab, ok.hd, ok.frames, ok.stk, ok.exf, ok.bs, ok.bsz, ok.noex, ok.exfs, ok.funs, ok.frf⟩
section
variable {X : Cx} {pins : List (Addr × Obj)} {σ : St} {H : Hp} {s : Shared} {E : Value → Shared → Prop}
theorem Inv.wish (I : Inv X pins σ H s) (E : Value → Shared → Prop) : Inv (X.wish E) pins σ H s := ⟨I.ok.wish E, I.os, I.bare, I.base, I.loc, I.cell, I.free, I.freeC, I.pin, I.hok, I.len⟩
theorem Inv.unwish (I : Inv (X.wish E) pins σ H s) : Inv X pins σ H s := ⟨I.ok.unwish, I.os, I.bare, I.base, I.loc, I.cell, I.free, I.freeC, I.pin, I.hok, I.len⟩
theorem SP.unwish {D : Ends} {f : Flow} {s' : Shared} (h : SP (X.wish E) pins D f s') : SP X pins D f s' := by
  cases f with
  | next => obtain ⟨σ', H', I, q⟩ := h; exact ⟨σ', H', I.unwish, q⟩
  | brk => obtain ⟨σ', H', I, q⟩ := h; exact ⟨σ', H', I.unwish, q⟩
  | cont => obtain ⟨σ', H', I, q⟩ := h; exact ⟨σ', H', I.unwish, q⟩
  | ret u => obtain ⟨v, σ', H', I, r, q⟩ := h; exact ⟨v, σ', H', I.unwish, r, q⟩
theorem PSs.nox {st : List Stmt} {t : TS} (h : PSs X.nox st t) : PSs X st t := fun pins s σ H D I hw =>
  wpAny_mono (h pins s σ H D (I.wish _) hw) (fun _ _ q => q.unwish) fun _ _ z => False.elim z
end

/-! ### blocks and small statements -/
section
variable {X : Cx} {st : Stmt} {rest : List Stmt} {t u : TS} {e : Expr} {te : TE} {pos : Pos}
def tNext : TS := fun D σ H => D.nx σ H
def tSeq (t u : TS) : TS := fun D σ H => t { D with nx := u D } σ H
theorem pss_nil : PSs X [] tNext := fun _ _ σ H _ I h => wpAny_execs_nil ⟨σ, H, I, h⟩
theorem pss_cons (h1 : PS X st t) (h2 : PSs X rest u) : PSs X (st :: rest) (tSeq t u) := by
  intro pins s σ H D I h
  refine wpAny_execs_cons (thn (h1 pins s σ H { D with nx := u D } I h) fun f s1 q => ?_)
  cases f with
  | next =>
    obtain ⟨σ', H', I', q⟩ := q
    exact h2 pins s1 σ' H' D I' q
  | ret v => exact q
  | brk => exact q
  | cont => exact q
theorem pss_one (h1 : PS X st t) : PSs X [st] t := by
  intro pins s σ H D I h
  refine wpAny_execs_cons (thn (h1 pins s σ H D I h) fun f s1 q => ?_)
  cases f with
  | next => exact wpAny_execs_nil q
  | ret v => exact q
  | brk => exact q
  | cont => exact q
def tBreak : TS := fun D σ H => D.bk σ H
def tCont : TS := fun D σ H => D.ct σ H
/-- in a def's body nothing is shown -/
theorem Inv.quiet {pins : List (Addr × Obj)} {σ : St} {H : Hp} {s : Shared} (I : Inv X pins σ H s) : interactive X.env = false := by simp [interactive, I.ok.kind]
/-- an expression whose value is dropped -/
def tDrop (te : TE) : TS := fun D σ H => te σ H fun _ H1 => D.nx σ H1
theorem ps_expr (he : PE X e te) (hs : swapsWith e none pos.line X.env = pure false := by rfl) : PS X (.Expr e pos) (tDrop te) := by
  intro pins s σ H D I h
  exact wpAny_Expr_any (thn (he pins s σ H _ I h) fun v s1 ⟨x, H1, I1, r1, q1⟩ => ⟨σ, H1, I1, q1⟩) I.quiet hs
def tRet (te : TE) : TS := fun D σ H => te σ H D.rt
theorem ps_ret (he : PE X e te) : PS X (.Return (some e) pos) (tRet te) := by
  intro pins s σ H D I h
  exact wpAny_Return_some (thn (he pins s σ H _ I h) fun v s1 ⟨x, H1, I1, r1, q1⟩ => ⟨x, σ, H1, I1, r1, q1⟩)
def tRetN : TS := fun D _ H => D.rt .non H
def tIfS (c : TT) (t u : TS) : TS := fun D σ H => c σ H fun b H1 => if b = true then t D σ H1 else u D σ H1
theorem ps_if {c : Expr} {a b : List Stmt} {tc : TT} (hc : PT X c tc) (ha : PSs X a t) (hb : PSs X b u) : PS X (.If c a b pos) (tIfS tc t u) := by
  intro pins s σ H D I h
  refine wpAny_If (thn (hc pins s σ H _ I h) fun d s1 ⟨H1, I1, q1⟩ => ?_)
  cases d with
  | true => exact ha pins s1 σ H1 D I1 q1
  | false => exact hb pins s1 σ H1 D I1 q1
/-- code that the proof never comes to -/
def tNever : TS := fun _ _ _ => False
theorem pss_never {sts : List Stmt} : PSs X sts tNever := fun _ _ _ _ _ _ h => h.elim
end

/-! ### targets -/
abbrev TG := V → St → Hp → (St → Hp → Prop) → Prop
abbrev TGs := List V → St → Hp → (St → Hp → Prop) → Prop
def PG (X : Cx) (target : Expr) (t : TG) : Prop :=
  ∀ (pins : List (Addr × Obj)) (s : Shared) (σ : St) (H : Hp) (v : V) (u : Value) (Q : St → Hp → Prop), Inv X pins σ H s → RelV v u → t v σ H Q →
    wpAny (model X.prog X.w) X.A (assign target X.env u) (fun _ s' => ∃ σ' H', Inv X pins σ' H' s' ∧ Q σ' H') X.xe s
/-- several targets, one after another -/
def PGs (X : Cx) (ts : List Expr) (t : TGs) : Prop :=
  ∀ (pins : List (Addr × Obj)) (s : Shared) (σ : St) (H : Hp) (vs : List V) (us : List Value) (Q : St → Hp → Prop), Inv X pins σ H s → Vals vs us → t vs σ H Q →
    wpAny (model X.prog X.w) X.A (assignInOrder ((assignEach ts X.env).map (·.2)) us) (fun _ s' => ∃ σ' H', Inv X pins σ' H' s' ∧ Q σ' H') X.xe s
/-- o[i] = v, by values -/
abbrev TSet := V → V → V → Hp → (Hp → Prop) → Prop
def PSet (X : Cx) (t : TSet) : Prop :=
  ∀ (pins : List (Addr × Obj)) (s : Shared) (σ : St) (H : Hp) (o i v : V) (ov iv u : Value) (Q : Hp → Prop), Inv X pins σ H s → RelV o ov → RelV i iv → RelV v u → t o i v H Q →
    wpAny (model X.prog X.w) X.A (setItem ov iv u) (fun _ s' => ∃ H', Inv X pins σ H' s' ∧ Q H') X.xe s
/-- a op= b, by values -/
abbrev TIp := V → V → Hp → VK → Prop
def PIp (X : Cx) (op : Operator) (t : TIp) : Prop :=
  ∀ (pins : List (Addr × Obj)) (s : Shared) (σ : St) (H : Hp) (x y : V) (v u : Value) (Q : VK), Inv X pins σ H s → RelV x v → RelV y u → t x y H Q →
    wpAny (model X.prog X.w) X.A (inplaceOp op v u) (EP X pins σ Q) X.xe s
section
variable {X : Cx} {pos : Pos}
def gName (i : Nat) : TG := fun v σ H Q => Q (σ.set i (some v)) H
theorem pg_name {i : Nat} {x : Str} (hN : X.N.Nodup) (hi : X.N[i]? = some x) (hx : Loc X.env.scope x) (hf : X.fn x = true ∨ X.env.scope.names.lookup x = some .local := by first | exact .inl rfl | exact .inr rfl | assumption) : PG X (.Name x pos) (gName i) := by
  intro pins s σ H v u Q I r h
  exact wpAny_assign_Name (store_ok I hN hi hx r (fun s' I' => ⟨_, H, I', h⟩) hf)
def gNil : TGs := fun vs σ H Q => vs = [] ∧ Q σ H
def gCons (t : TG) (u : TGs) : TGs := fun vs σ H Q => ∃ v r, vs = v :: r ∧ t v σ H fun σ' H' => u r σ' H' Q
theorem pgs_nil : PGs X [] gNil := by
  intro pins s σ H vs us Q I r h
  obtain ⟨e, h⟩ := h
  subst e
  cases r
  exact assignInOrder_nil ⟨σ, H, I, h⟩
theorem pgs_cons {e : Expr} {es : List Expr} {t : TG} {u : TGs} (h1 : PG X e t) (h2 : PGs X es u)
    (hs : (assignEach (e :: es) X.env).map (·.2) = assign e X.env :: (assignEach es X.env).map (·.2) := by rfl) : PGs X (e :: es) (gCons t u) := by
  intro pins s σ H vs us Q I r h
  obtain ⟨v, vr, e1, h⟩ := h
  subst e1
  cases r with
  | cons r rr =>
    rw [hs]
    refine assignInOrder_cons (thn (h1 pins s σ H _ _ _ I r h) fun _ s1 ⟨σ1, H1, I1, q1⟩ => ?_)
    exact h2 pins s1 σ1 H1 _ _ Q I1 rr q1
/-- (a, b, ..) = a tuple of that length -/
def gTup (K : PySem.W.Frag) (n : Nat) (t : TGs) : TG := fun v σ H Q => ∃ a xs, v = .ref a ∧ SqT K H a xs ∧ xs.length = n ∧ t xs σ H Q
theorem pg_tup {es : List Expr} {k : Nat} {t : TGs} {n : Nat} (hc : X.calm = true) (h : PGs X es t)
    (hn : (assignEach es X.env).length = n := by rfl) (hst : (assignEach es X.env).findIdx? (·.1) = none := by rfl) : PG X (.Tuple es k pos) (gTup X.K n t) := by
  intro pins s σ H v u Q I r hw
  obtain ⟨a, xs, e1, hq, hl, hw⟩ := hw
  subst e1
  cases r
  obtain ⟨its, rv, ht, hz⟩ := I.tuple hq
  refine assign_Tuple_tuple (I.ok.hd hc) ht (by simp [hn, ← hl, rv.length]) hst fun h' hx => ?_
  have I1 : Inv X pins σ H { s with heap := h' } := I.kept (t' := s.toks) fun b o e => hx b o (Nat.ne_of_lt (Heap.lt_size e)) e
  exact h pins _ σ H xs _ Q I1 (by simpa using rv) hw
/-- o[i] = .. -/
def gSub (to ti : TE) (t : TSet) : TG := fun v σ H Q => to σ H fun o H1 => ti σ H1 fun i H2 => t o i v H2 fun H3 => Q σ H3
theorem pg_sub {o i : Expr} {to ti : TE} {t : TSet} (ho : PE X o to) (hi : PE X i ti) (hs : PSet X t)
    (ha : ∀ v, assign (.Subscript o i pos) X.env v = (do
      let ov ← holding [v] (eval o X.env)
      let iv ← holding [v, ov] (eval i X.env)
      standAt pos
      holding [v, ov, iv] (setItem ov iv v)
      release [v, ov, iv] []) := by intro _; rfl) : PG X (.Subscript o i pos) (gSub to ti t) := by
  intro pins s σ H v u Q I r h
  rw [ha]
  refine wpAny_bind (wpAny_holding (thn (ho pins s σ H _ I h) fun ov s1 ⟨x, H1, I1, r1, q1⟩ => ?_))
  refine wpAny_bind (wpAny_holding (thn (hi pins s1 σ H1 _ I1 q1) fun iv s2 ⟨y, H2, I2, r2, q2⟩ => ?_))
  refine wpAny_bind (wpAny_standAt (wpAny_bind (wpAny_holding (thn (hs pins s2 σ H2 x y v ov iv u _ I2 r1 r2 r q2) fun _ s3 ⟨H3, I3, q3⟩ => ?_))))
  exact wpAny_release ⟨σ, H3, I3, q3⟩
/-- target = value -/
def tAsg (te : TE) (g : TG) : TS := fun D σ H => te σ H fun x H1 => g x σ H1 D.nx
theorem ps_asg {tg e : Expr} {te : TE} {g : TG} (he : PE X e te) (hg : PG X tg g) (hs : swapsWithSole [tg] e pos.line X.env = pure false := by rfl) (hw : swappedStores [tg] e X.env = pure none := by rfl)
    (h1 : (assignEach [tg] X.env).map (·.2) = [assign tg X.env] := by rfl) : PS X (.Assign [tg] e pos) (tAsg te g) := by
  intro pins s σ H D I h
  refine wpAny_Assign_stores (thn (he pins s σ H _ I h) fun v s1 ⟨x, H1, I1, r1, q1⟩ => ?_) hs hw
  rw [h1]
  exact thn (hg pins s1 σ H1 x v _ I1 r1 q1) fun _ s2 q => q
/-- name = value -/
theorem ps_set {i : Nat} {x : Str} {e : Expr} {te : TE} {pos' : Pos} (hN : X.N.Nodup) (hi : X.N[i]? = some x) (hx : Loc X.env.scope x) (he : PE X e te) (hs : swapsWith e (some (.Name x pos')) pos.line X.env = pure false := by rfl) (hf : X.fn x = true ∨ X.env.scope.names.lookup x = some .local := by first | exact .inl rfl | exact .inr rfl | assumption) :
    PS X (.Assign [.Name x pos'] e pos) (tAsg te (gName i)) := by
  intro pins s σ H D I h
  refine wpAny_Assign_Name (thn (he pins s σ H _ I h) fun v s1 ⟨y, H1, I1, r1, q1⟩ => ?_) hs
  exact store_ok I1 hN hi hx r1 (fun s2 I2 => ⟨_, H1, I2, q1⟩) hf
/-- a, b = x, y with plain local names: stored from the right; the pair itself is not tracked (the opening rows as in PyProof/Rows/TupAssign.lean:23) -/
def tPar (i j : Nat) (ta : TA) : TS := fun D σ H => ta σ H fun vs H1 => ∃ v w, vs = [v, w] ∧ D.nx ((σ.set i (some v)).set j (some w)) H1
/-- name op= e -/
def tAug (i : Nat) (te : TE) (ti : TIp) : TS := fun D σ H => ∃ x, σ[i]? = some (some x) ∧ te σ H fun y H1 => ti x y H1 fun z H2 => D.nx (σ.set i (some z)) H2
theorem ps_aug {i : Nat} {x : Str} {e : Expr} {te : TE} {op : Operator} {ti : TIp} {pos' : Pos} (hN : X.N.Nodup) (hi : X.N[i]? = some x) (hx : Loc X.env.scope x) (he : PE X e te) (ho : PIp X op ti) (hf : X.fn x = true ∨ X.env.scope.names.lookup x = some .local := by first | exact .inl rfl | exact .inr rfl | assumption) :
    PS X (.AugAssign (.Name x pos') op e pos) (tAug i te ti) := by
  intro pins s σ H D I h
  obtain ⟨v, e1, h⟩ := h
  obtain ⟨m, hn, hl⟩ := I.loc
  have vis : Vis X.env.scope x := by rcases hx with k | k; exact .inl k; exact .inr (.inl k)
  obtain ⟨u, r, l⟩ := hl i x v hi e1 vis
  refine wpAny_AugAssign_Name ?_
  have go : wpAny (model X.prog X.w) X.A (eval e X.env) (fun w s₂ => wpAny (model X.prog X.w) X.A (inplaceOp op u w) (fun r s₃ => wpAny (model X.prog X.w) X.A (storeName X.env x r) (fun _ => SP X pins D .next) X.xe s₃) X.xe s₂) X.xe s := by
    refine thn (he pins s σ H _ I h) fun w s1 ⟨y, H1, I1, r1, q1⟩ => ?_
    refine thn (ho pins s1 σ H1 v y u w _ I1 r r1 q1) fun z s2 ⟨zv, H2, I2, r2, q2⟩ => ?_
    exact store_ok I2 hN hi hx r2 (fun s3 I3 => ⟨_, H2, I3, q2⟩) hf
  rcases l with ⟨hk, hm⟩ | ⟨hk, c, hc, hcell⟩
  · exact wpAny_loadName_local I.ok.kind hk hn hm go
  · rcases hk with hk | hk
    · exact wpAny_loadName_cell I.ok.kind hk hc hcell go
    · rcases hx with k | k
      · have : X.env.scope.names.lookup x = some .free := hk
        rw [k] at this; cases this
      · have : X.env.scope.names.lookup x = some .free := hk
        rw [k] at this; cases this
/-- o[i] op= e -/
def tAugS (to ti te : TE) (tget : V → V → Hp → VK → Prop) (tip : TIp) (tset : TSet) : TS := fun D σ H => to σ H fun o H1 => ti σ H1 fun i H2 => tget o i H2 fun x H3 => te σ H3 fun y H4 => tip x y H4 fun z H5 => tset o i z H5 fun H6 => D.nx σ H6
/-- o[i], by values -/
def PGet (X : Cx) (t : V → V → Hp → VK → Prop) : Prop :=
  ∀ (pins : List (Addr × Obj)) (s : Shared) (σ : St) (H : Hp) (o i : V) (ov iv : Value) (Q : VK), Inv X pins σ H s → RelV o ov → RelV i iv → t o i H Q →
    wpAny (model X.prog X.w) X.A (getItem ov iv) (EP X pins σ Q) X.xe s
/-- ints -/
def ipI (f : Int → Int → Int) : TIp := fun x y H Q => ∃ i j, x = .int i ∧ y = .int j ∧ Q (.int (f i j)) H
theorem ip_add : PIp X .Add (ipI fun i j => i + j) := by
  intro pins s σ H x y v u Q I r1 r2 h
  obtain ⟨i, j, e1, e2, q⟩ := h
  subst e1; subst e2
  obtain ⟨t, rfl⟩ := r1
  obtain ⟨t', rfl⟩ := r2
  exact iadd_int ⟨.int _, H, I.tok _, ⟨_, rfl⟩, q⟩
end

/-! ### while -/
section
variable {X : Cx} {pos : Pos}
/-- the invariant W with its measure -/
def tWhile (c : TT) (tb : TS) : TS := fun D σ H => ∃ W : Nat → St → Hp → Prop, (∃ m, W m σ H) ∧ ∀ m σ H, W m σ H →
  c σ H fun b H1 => if b = true then ∃ N : St → Hp → Prop, (∀ σ' H', N σ' H' → ∃ m', m' < m ∧ W m' σ' H') ∧ tb { D with nx := N, ct := N, bk := D.nx } σ H1 else D.nx σ H1
theorem ps_while {c : Expr} {body : List Stmt} {tc : TT} {tb : TS} (hp : PassesOwn (model X.prog X.w) X.A X.env X.xe) (hc : PT X c tc) (hb : PSs X body tb) : PS X (.While c body [] pos) (tWhile tc tb) := by
  intro pins s σ H D I h
  obtain ⟨W, ⟨m0, w0⟩, turn⟩ := h
  refine wpAny_While (codeAny_whileLoop (fun n s' => ∃ σ' H', Inv X pins σ' H' s' ∧ W n σ' H') ?_ m0 ⟨σ, H, I, w0⟩)
  rintro n s1 ⟨σ1, H1, I1, w1⟩
  refine wpAny_passesOwn hp (thn (hc pins s1 σ1 H1 _ I1 (turn n σ1 H1 w1)) fun b s2 ⟨H2, I2, q2⟩ => ?_)
  cases b with
  | true =>
    obtain ⟨N, hN, q2⟩ := q2
    rw [if_pos rfl]
    refine wpAny_passesOwn hp (thn (hb pins s2 σ1 H2 _ I2 q2) fun f s3 q3 => ?_)
    cases f with
    | next =>
      obtain ⟨σ3, H3, I3, n3⟩ := q3
      obtain ⟨m', hm, w3⟩ := hN σ3 H3 n3
      exact ⟨m', hm, σ3, H3, I3, w3⟩
    | cont =>
      obtain ⟨σ3, H3, I3, n3⟩ := q3
      obtain ⟨m', hm, w3⟩ := hN σ3 H3 n3
      exact ⟨m', hm, σ3, H3, I3, w3⟩
    | brk => exact q3
    | ret v => exact q3
  | false =>
    rw [if_neg Bool.false_ne_true]
    exact wpAny_execs_nil ⟨σ1, H2, I2, q2⟩
end

/-! ### what a loop or a comprehension walks -/
/-- at turn i: it yields x (the heap may grow), or it stops -/
structure It where
  go : Nat → Hp → Prop
  yld : Nat → Hp → V → Hp → Prop
  stop : Nat → Hp → Prop
/-- the iterator's own objects may turn: they are not the frame's, not pinned, younger than the entry (or a comprehension's own) -/
def FpOk (X : Cx) (pins : List (Addr × Obj)) (H : Hp) (b : Addr) : Prop :=
  H b = none ∧ b ≠ X.env.locals ∧ b ∉ X.fs ∧ (b ∈ X.ex ∨ X.s₀.heap.objs.size ≤ b) ∧ (∀ x c, X.env.cells.lookup x = some c → c ≠ b) ∧ ∀ p ∈ X.pn ++ pins, p.1 ≠ b
theorem Inv.fpOk {X : Cx} {pins : List (Addr × Obj)} {σ : St} {H H' : Hp} {s : Shared} {b : Addr} (I : Inv X pins σ H s) (hb : s.heap.objs.size ≤ b) (hn : H' b = none) : FpOk X pins H' b := by
  refine ⟨hn, Nat.ne_of_gt (Nat.lt_of_lt_of_le I.lt hb), I.nofs hb, .inr (Nat.le_trans I.sz hb), fun x c e z => ?_, fun p hp z => ?_⟩
  · obtain ⟨v, q⟩ := I.cell x c e
    exact absurd (Nat.lt_of_lt_of_le q.lt (by rw [z]; exact hb)) (Nat.lt_irrefl _)
  · exact absurd (Nat.lt_of_lt_of_le (Heap.lt_size (I.pin p hp).1) (by rw [z]; exact hb)) (Nat.lt_irrefl _)
structure Turn (P : Program) (w : World) (K : PySem.W.Frag) (tg : Expr) (J : It) (fp : List Addr) (it : Addr) (tn : Nat → Heap → Prop) : Prop where
  mem : it ∈ fp
  obj : ∀ i h, tn i h → ∀ b ∈ fp, ∃ o, h.get? b = some o ∧ ∀ v, o.data ≠ .cell v
  keep : ∀ i h h', tn i h → (∀ b ∈ fp, ∀ o, h.get? b = some o → h'.get? b = some o) → tn i h'
  item : ∀ (X : Cx), X.prog = P → X.w = w → X.K = K → X.calm = true → ∀ (i : Nat) (pins : List (Addr × Obj)) (s : Shared) (σ : St) (H : Hp) (E : Value → Shared → Prop), Inv X pins σ H s → (∀ b ∈ fp, FpOk X pins H b) → tn i s.heap → J.go i H →
    wpAny (model P w) X.A (pyNext (.ref it)) (fun r s1 => ∃ u, r = some u ∧
      wpAny (model P w) X.A (letOwnedTupleGo tg (.ref it) u) (fun _ s2 => ∃ x H', Inv X pins σ H' s2 ∧ RelV x u ∧ J.yld i H x H' ∧ tn (i + 1) s2.heap ∧ ∀ b ∈ fp, H' b = none) E s1) E s
  done : ∀ (X : Cx), X.prog = P → X.w = w → X.K = K → X.calm = true → ∀ (i : Nat) (pins : List (Addr × Obj)) (s : Shared) (σ : St) (H : Hp) (E : Value → Shared → Prop), Inv X pins σ H s → (∀ b ∈ fp, FpOk X pins H b) → tn i s.heap → J.stop i H →
    wpAny (model P w) X.A (pyNext (.ref it)) (fun r s1 => r = none ∧ Inv X pins σ H s1) E s
  self : ∀ (A : Around) (i : Nat) (s : Shared) (Q : Value → Shared → Prop) (E : Value → Shared → Prop), tn i s.heap → Q (.ref it) s → wpAny (model P w) A (pyIter (.ref it)) Q E s
abbrev TI := St → Hp → (It → Hp → Prop) → Prop
/-- an iterator has come -/
def PIE (X : Cx) (pins : List (Addr × Obj)) (σ : St) (tg : Expr) (R : It → Hp → Prop) (itv : Value) (s2 : Shared) : Prop :=
  ∃ (it : Addr) (fp : List Addr) (tn : Nat → Heap → Prop) (J : It) (H' : Hp), itv = .ref it ∧ Inv X pins σ H' s2 ∧ Turn X.prog X.w X.K tg J fp it tn ∧ tn 0 s2.heap ∧ (∀ b ∈ fp, FpOk X pins H' b) ∧ R J H'
def PI (X : Cx) (tg iter : Expr) (wi : TI) : Prop :=
  ∀ (pins : List (Addr × Obj)) (s : Shared) (σ : St) (H : Hp) (R : It → Hp → Prop), Inv X pins σ H s → wi σ H R →
    wpAny (model X.prog X.w) X.A (eval iter X.env) (fun v s1 => wpAny (model X.prog X.w) X.A (pyIter v) (PIE X pins σ tg R) X.xe s1) X.xe s

/-- the step ahead of the store is nothing for an iterator that keeps no tuple -/
theorem go_of {M : Model} {A : Around} {E : Value → Shared → Prop} {s : Shared} {tg : Expr} {it : Addr} {u : Value} {o : Obj} {n : String} {vs : Array Value} {Q : Unit → Shared → Prop} (ho : s.heap.get? it = some o) (hc : o.cls = .type n) (hd : o.data = .fields vs)
    (hn : ["enumerate", "zip", "dict_itemiterator", "dict_reverseitemiterator", "odict_iterator", "itertools.zip_longest", "itertools.pairwise"].contains n = false) (hQ : Q () s) : wpAny M A (letOwnedTupleGo tg (.ref it) u) Q E s := by
  unfold letOwnedTupleGo
  cases tg <;> first
    | exact wpAny_pure hQ
    | (cases u <;> first
        | exact wpAny_pure hQ
        | (refine wpAny_bind (wpAny_load ho ?_)
           rw [hc, hd]
           show wpAny M A (if (["enumerate", "zip", "dict_itemiterator", "dict_reverseitemiterator", "odict_iterator", "itertools.zip_longest", "itertools.pairwise"].contains n && vs[0]? == some (rawInt _)) = true then _ else _) Q E s
           rw [if_neg (by intro h; rw [hn, Bool.false_and] at h; cases h)]
           exact wpAny_pure hQ))

/-- the list at a, as it stands at each turn (a loop may append to it) -/
def Itl (K : PySem.W.Frag) (a : Addr) : It :=
  ⟨fun i H => ∃ xs x, SqL K H a xs ∧ xs[i]? = some x, fun i H x H' => H' = H ∧ ∀ xs, SqL K H a xs → xs[i]? = some x, fun i H => ∃ xs, SqL K H a xs ∧ xs.length ≤ i⟩
def Itt (K : PySem.W.Frag) (a : Addr) : It :=
  ⟨fun i H => ∃ xs x, SqT K H a xs ∧ xs[i]? = some x, fun i H x H' => H' = H ∧ ∀ xs, SqT K H a xs → xs[i]? = some x, fun i H => ∃ xs, SqT K H a xs ∧ xs.length ≤ i⟩
/-- lo, lo + 1, .. (n of them) -/
def Itr (lo : Int) (n : Nat) : It := ⟨fun i _ => i < n, fun i H x H' => H' = H ∧ x = .int (lo + i), fun i _ => n ≤ i⟩
theorem turn_list {P : Program} {w : World} {K : PySem.W.Frag} {tg : Expr} (a it : Addr) : Turn P w K tg (Itl K a) [it] it (fun i h => h.IsListIter it a i) where
  mem := by simp
  obj := fun i h st b hb => by
    have e : b = it := by simpa using hb
    subst e
    obtain ⟨o, e, c, d⟩ := st
    exact ⟨o, e, fun v z => by rw [d] at z; cases z⟩
  keep := fun i h h' st k => st.at fun o e => k it (by simp) o e
  item := by
    intro X hP hw hK hc i pins s σ H E I hf st hg
    subst hP hw hK
    obtain ⟨xs, x, hq, hx⟩ := hg
    obtain ⟨its, rv, p, hz⟩ := I.list hq
    obtain ⟨u, hu, ru⟩ := rv.get hx
    obtain ⟨f0, f1, f2, f3, f4, f5⟩ := hf it (by simp)
    refine wpAny_pyNext_list_item st p.isList (x := u) (by simpa using hu) fun h' st' sb => ?_
    have I1 : Inv X pins σ H { s with heap := h' } := I.turned (t' := s.toks) (fun b o hb e => (sb.2 b hb).trans e) f0 f1 f3 f4 f5
    obtain ⟨o, e, c, d⟩ := id st'
    exact ⟨u, rfl, go_of (s := { s with heap := h' }) e c d (by decide) ⟨x, H, I1, ru, ⟨rfl, fun ys hy => by rw [I.list_inj hy hq]; exact hx⟩, st', fun b hb => (hf b hb).1⟩⟩
  done := by
    intro X hP hw hK hc i pins s σ H E I hf st hg
    subst hP hw hK
    obtain ⟨xs, hq, hx⟩ := hg
    obtain ⟨its, rv, p, hz⟩ := I.list hq
    obtain ⟨f0, f1, f2, f3, f4, f5⟩ := hf it (by simp)
    have hl := rv.length
    exact wpAny_pyNext_list_end (I.ok.hd hc) st p.isList (by simp; omega) fun h' eb => ⟨rfl, I.turned (t' := s.toks) (fun b o hb e => eb b o hb e) f0 f1 f3 f4 f5⟩
  self := fun _ _ _ _ _ st h => wpAny_pyIter_listiter st h
theorem turn_tuple {P : Program} {w : World} {K : PySem.W.Frag} {tg : Expr} (a it : Addr) : Turn P w K tg (Itt K a) [it] it (fun i h => h.IsTupleIter it a i) where
  mem := by simp
  obj := fun i h st b hb => by
    have e : b = it := by simpa using hb
    subst e
    obtain ⟨o, e, c, d⟩ := st
    exact ⟨o, e, fun v z => by rw [d] at z; cases z⟩
  keep := fun i h h' st k => st.at fun o e => k it (by simp) o e
  item := by
    intro X hP hw hK hc i pins s σ H E I hf st hg
    subst hP hw hK
    obtain ⟨xs, x, hq, hx⟩ := hg
    obtain ⟨its, rv, p, hz⟩ := I.tuple hq
    obtain ⟨u, hu, ru⟩ := rv.get hx
    obtain ⟨f0, f1, f2, f3, f4, f5⟩ := hf it (by simp)
    refine wpAny_pyNext_tuple_item st (show s.heap.IsTuple a its.toArray from p) (x := u) (by simpa using hu) fun h' st' sb => ?_
    have I1 : Inv X pins σ H { s with heap := h' } := I.turned (t' := s.toks) (fun b o hb e => (sb.2 b hb).trans e) f0 f1 f3 f4 f5
    obtain ⟨o, e, c, d⟩ := id st'
    exact ⟨u, rfl, go_of (s := { s with heap := h' }) e c d (by decide) ⟨x, H, I1, ru, ⟨rfl, fun ys hy => by rw [I.tuple_inj hy hq]; exact hx⟩, st', fun b hb => (hf b hb).1⟩⟩
  done := by
    intro X hP hw hK hc i pins s σ H E I hf st hg
    subst hP hw hK
    obtain ⟨xs, hq, hx⟩ := hg
    obtain ⟨its, rv, p, hz⟩ := I.tuple hq
    obtain ⟨f0, f1, f2, f3, f4, f5⟩ := hf it (by simp)
    have hl := rv.length
    exact wpAny_pyNext_tuple_end (I.ok.hd hc) st (show s.heap.IsTuple a its.toArray from p) (by simp; omega) fun h' eb => ⟨rfl, I.turned (t' := s.toks) (fun b o hb e => eb b o hb e) f0 f1 f3 f4 f5⟩
  self := fun _ _ _ _ _ st h => wpAny_pyIter_tupleiter st h
theorem turn_range {P : Program} {w : World} {K : PySem.W.Frag} {tg : Expr} (it : Addr) (lo : Int) (n : Nat) : Turn P w K tg (Itr lo n) [it] it (fun i h => IsRangeIter h it (lo + (i : Nat) * 1) ((n : Int) - (i : Nat)) 1) where
  mem := by simp
  obj := fun i h st b hb => by
    have e : b = it := by simpa using hb
    subst e
    exact ⟨_, st, fun v z => by
      have z' : Data.fields _ = Data.cell v := z
      cases z'⟩
  keep := fun i h h' st k => k it (by simp) _ st
  item := by
    intro X hP hw hK hc i pins s σ H E I hf st hg
    subst hP hw hK
    obtain ⟨f0, f1, f2, f3, f4, f5⟩ := hf it (by simp)
    have W := Walks.range (prog := X.prog) (w := X.w) (I.ok.hd hc) it lo 1 n
    refine W.item i s _ _ hg st fun v h' tk hv st' kk => ?_
    obtain ⟨t, rfl⟩ := hv
    have I1 : Inv X pins σ H { s with heap := h', toks := tk } := I.turned (fun b o hb e => kk b o (by simpa using hb) e) f0 f1 f3 f4 f5
    refine ⟨_, rfl, go_of (s := { s with heap := h', toks := tk }) (n := "range_iterator") st' rfl rfl (by decide) ⟨.int (lo + i), H, I1, ⟨t, ?_⟩, ⟨rfl, rfl⟩, st', fun b hb => (hf b hb).1⟩⟩
    rw [Int.mul_one]
  done := by
    intro X hP hw hK hc i pins s σ H E I hf st hg
    subst hP hw hK
    obtain ⟨f0, f1, f2, f3, f4, f5⟩ := hf it (by simp)
    exact wpAny_pyNext_range_end (I.ok.hd hc) st (by have : n ≤ i := hg; omega) fun h' eb => ⟨rfl, I.turned (t' := s.toks) (fun b o hb e => eb b o hb e) f0 f1 f3 f4 f5⟩
  self := fun _ _ _ _ _ st h => wpAny_pyIter_rangeiter st h
end L2

namespace L2
open PySem PySem.Spec PyProof.Rows
section
variable {X : Cx} {tg : Expr}
def iList (K : PySem.W.Frag) (tl : TE) : TI := fun σ H R => tl σ H fun x H1 => ∃ a, x = .ref a ∧ (∃ xs, SqL K H1 a xs) ∧ R (Itl K a) H1
def iTup (K : PySem.W.Frag) (tl : TE) : TI := fun σ H R => tl σ H fun x H1 => ∃ a, x = .ref a ∧ (∃ xs, SqT K H1 a xs) ∧ R (Itt K a) H1
theorem pi_list {l : Expr} {tl : TE} (hl : PE X l tl) : PI X tg l (iList X.K tl) := by
  intro pins s σ H R I h
  refine thn (hl pins s σ H _ I h) fun v s1 ⟨x, H1, I1, r1, q1⟩ => ?_
  obtain ⟨a, e, ⟨xs, hq⟩, q⟩ := q1
  subst e
  cases r1
  obtain ⟨its, rv, p, hz⟩ := I1.list hq
  refine wpAny_pyIter_list p.isList ?_
  refine ⟨s1.heap.objs.size, [s1.heap.objs.size], _, _, H1, rfl, I1.kept (t' := s1.toks) fun b o e => Heap.get?_push_of_some _ e, turn_list a _, ⟨_, Heap.get?_push_size _ rfl, rfl, rfl⟩, fun b hb => ?_, q⟩
  have e : b = s1.heap.objs.size := by simpa using hb
  subst e
  exact I1.fpOk (Nat.le_refl _) (I1.hok.fresh (Nat.le_refl _))
theorem pi_tup {l : Expr} {tl : TE} (hl : PE X l tl) : PI X tg l (iTup X.K tl) := by
  intro pins s σ H R I h
  refine thn (hl pins s σ H _ I h) fun v s1 ⟨x, H1, I1, r1, q1⟩ => ?_
  obtain ⟨a, e, ⟨xs, hq⟩, q⟩ := q1
  subst e
  cases r1
  obtain ⟨its, rv, p, hz⟩ := I1.tuple hq
  refine wpAny_pyIter_tuple (show s1.heap.IsTuple a its.toArray from p) ?_
  refine ⟨s1.heap.objs.size, [s1.heap.objs.size], _, _, H1, rfl, I1.kept (t' := s1.toks) fun b o e => Heap.get?_push_of_some _ e, turn_tuple a _, ⟨_, Heap.get?_push_size _ rfl, rfl, rfl⟩, fun b hb => ?_, q⟩
  have e : b = s1.heap.objs.size := by simpa using hb
  subst e
  exact I1.fpOk (Nat.le_refl _) (I1.hok.fresh (Nat.le_refl _))
/-- a range object just made, walked -/
theorem range_it {pins : List (Addr × Obj)} {σ : St} {H : Hp} {s : Shared} {R : It → Hp → Prop} {E : Value → Shared → Prop} {lo hi : Int} {t u v : Tok} {tk : Nat} (I : Inv X pins σ H s) (h1 : -(2 ^ 62) ≤ lo) (h2 : lo < 2 ^ 62) (h3 : -(2 ^ 62) ≤ hi) (h4 : hi < 2 ^ 62)
    (q : R (Itr lo (hi - lo).toNat) H) : wpAny (model X.prog X.w) X.A (pyIter (.ref s.heap.objs.size)) (PIE X pins σ tg R) E { s with heap := s.heap.push { cls := .type "range", data := .fields #[.int lo t, .int hi u, .int 1 v] }, toks := tk } := by
  refine wpAny_pyIter_range (IsRange.new ..) (small_one h1 h2 h3 h4) ?_
  have I1 : Inv X pins σ H { s with heap := s.heap.push { cls := .type "range", data := .fields #[.int lo t, .int hi u, .int 1 v] }, toks := tk } := I.kept fun b o e => Heap.get?_push_of_some _ e
  refine ⟨(s.heap.push { cls := .type "range", data := .fields #[.int lo t, .int hi u, .int 1 v] }).objs.size, [(s.heap.push { cls := .type "range", data := .fields #[.int lo t, .int hi u, .int 1 v] }).objs.size], _, _, H, rfl,
    I1.kept (t' := tk) fun b o e => Heap.get?_push_of_some _ e, turn_range _ lo (hi - lo).toNat, ?_, fun b hb => ?_, q⟩
  · have e1 : lo + ((0 : Nat) : Int) * 1 = lo := by simp
    have e2 : (((hi - lo).toNat : Nat) : Int) - ((0 : Nat) : Int) = Builtin.Range.rangeSize lo hi 1 := by rw [rangeSize_one]; split <;> omega
    show IsRangeIter _ _ (lo + ((0 : Nat) : Int) * 1) ((((hi - lo).toNat : Nat) : Int) - ((0 : Nat) : Int)) 1
    rw [e1, e2]
    exact Heap.get?_push_size _ rfl
  · have e : b = (s.heap.push { cls := .type "range", data := .fields #[.int lo t, .int hi u, .int 1 v] }).objs.size := by simpa using hb
    subst e
    exact I1.fpOk (Nat.le_refl _) (I1.hok.fresh (Nat.le_refl _))
def iRng1 (ta : TA) : TI := fun σ H R => ta σ H fun vs H1 => ∃ j : Int, vs = [.int j] ∧ -(2 ^ 62) ≤ j ∧ j < 2 ^ 62 ∧ R (Itr 0 j.toNat) H1
def iRng2 (ta : TA) : TI := fun σ H R => ta σ H fun vs H1 => ∃ i j : Int, vs = [.int i, .int j] ∧ (-(2 ^ 62) ≤ i ∧ i < 2 ^ 62 ∧ -(2 ^ 62) ≤ j ∧ j < 2 ^ 62) ∧ R (Itr i (j - i).toNat) H1
theorem pi_range1 {a : Expr} {ta : TA} {p pos : Pos} (hg : Gl X "range") (hm : X.mg "range" = none) (ha : PA X [a] ta) (hs : starEach [a] X.env = [(false, eval a X.env)] := by rfl) : PI X tg (.Call (.Name "range" p) [a] [] pos) (iRng1 ta) := by
  intro pins s σ H R I h
  refine Call_ (ld_blt I hg hm boot_range (PyProof.Rows.callWith_type1 (thn (ha pos pins s σ H _ I h) fun us s1 ⟨vs, H1, I1, r1, q1⟩ => ?_) hs rfl))
  obtain ⟨j, e, q1, q2, q⟩ := q1
  subst e
  cases r1 with
  | cons r rr =>
    cases rr
    obtain ⟨t, rfl⟩ := r
    exact call_range_1 (range_it I1 (by omega) (by omega) q1 q2 (by simpa using q))
/-! ### for -/
/-- W: the invariant by the turn and a measure; N: what the body is to reach -/
def tFor (wi : TI) (g : TG) (tb : TS) : TS := fun D σ H => wi σ H fun J H1 => ∃ W : Nat → Nat → St → Hp → Prop, (∃ m, W 0 m σ H1) ∧ ∀ i m σ H, W i m σ H →
  (J.stop i H ∧ D.nx σ H) ∨ (J.go i H ∧ ∃ N : St → Hp → Prop, (∀ σ' H', N σ' H' → ∃ m', m' < m ∧ W (i + 1) m' σ' H') ∧ ∀ x H', J.yld i H x H' → g x σ H' fun σ2 H2 => tb { D with nx := N, ct := N, bk := D.nx } σ2 H2)
/-- the records at fp as they stand -/
def pinsAt (fp : List Addr) (h : Heap) : List (Addr × Obj) := fp.filterMap fun b => (h.get? b).map fun o => (b, o)
theorem mem_pinsAt {fp : List Addr} {h : Heap} {b : Addr} {o : Obj} (hb : b ∈ fp) (e : h.get? b = some o) : (b, o) ∈ pinsAt fp h := List.mem_filterMap.mpr ⟨b, hb, by rw [e]; rfl⟩
theorem of_pinsAt {fp : List Addr} {h : Heap} {p : Addr × Obj} (hp : p ∈ pinsAt fp h) : p.1 ∈ fp ∧ h.get? p.1 = some p.2 := by
  obtain ⟨b, hb, e⟩ := List.mem_filterMap.mp hp
  cases q : h.get? b with
  | none => rw [q] at e; cases e
  | some o =>
    rw [q] at e
    have e' : (b, o) = p := Option.some.inj e
    subst e'
    exact ⟨hb, q⟩
theorem Inv.pinned {pins : List (Addr × Obj)} {σ : St} {H : Hp} {s : Shared} {fp : List Addr} (I : Inv X pins σ H s) (hf : ∀ b ∈ fp, FpOk X pins H b) (ho : ∀ b ∈ fp, ∃ o, s.heap.get? b = some o ∧ ∀ v, o.data ≠ .cell v) : Inv X (pins ++ pinsAt fp s.heap) σ H s :=
  I.pins_of fun p hp => (List.mem_append.mp hp).elim (fun z => I.pin p (List.mem_append_right _ z)) fun z => by
    obtain ⟨hb, e⟩ := of_pinsAt z
    obtain ⟨f0, f1, f2, _⟩ := hf p.1 hb
    obtain ⟨o, e', d⟩ := ho p.1 hb
    rw [e] at e'; cases e'
    exact ⟨e, f0, f1, f2, d⟩
theorem Inv.unpinned {pins pl : List (Addr × Obj)} {σ : St} {H : Hp} {s : Shared} (I : Inv X (pins ++ pl) σ H s) : Inv X pins σ H s := I.pins_of fun p hp => I.pin p (List.mem_append_right _ (List.mem_append_left _ hp))
theorem ps_for {iter : Expr} {body : List Stmt} {wi : TI} {g : TG} {tb : TS} {pos : Pos} (hp : PassesOwn (model X.prog X.w) X.A X.env X.xe) (hc : X.calm = true) (hi : PI X tg iter wi) (hg : PG X tg g) (hb : PSs X body tb)
    (hs : ∀ x, foldedSetIterable iter X.env x = pure x := by intro _; rfl) : PS X (.For tg iter body [] pos) (tFor wi g tb) := by
  intro pins s σ H D I h
  refine wpAny_For (thn (hi pins s σ H _ I h) fun v s1 h1 => thn h1 fun itv s2 h2 => ?_) hs
  obtain ⟨it, fp, tn, J, H2, e, I2, T, st2, f2, W, ⟨m0, w0⟩, turn⟩ := h2
  subst e
  -- what stays true of the iterator's objects through the loop
  have stat : ∀ {H' : Hp}, (∀ b ∈ fp, H' b = none) → ∀ b ∈ fp, FpOk X pins H' b := fun hn b hb => ⟨hn b hb, (f2 b hb).2⟩
  refine codeAny_forLoop_any (fun n s' => ∃ i σ' H', Inv X pins σ' H' s' ∧ tn i s'.heap ∧ (∀ b ∈ fp, H' b = none) ∧ W i n σ' H') ?_ m0 ⟨0, σ, H2, I2, st2, fun b hb => (f2 b hb).1, w0⟩
  rintro n s3 ⟨i, σ3, H3, I3, st3, fr3, w3⟩
  rcases turn i n σ3 H3 w3 with ⟨stop, qn⟩ | ⟨go, N, hN, step⟩
  · refine wpAny_passesOwn hp (thn (T.done X rfl rfl rfl hc i pins s3 σ3 H3 X.xe I3 (stat fr3) st3 stop) fun r s4 ⟨hr, I4⟩ => ?_)
    subst hr
    exact wpAny_execs_nil ⟨σ3, H3, I4, qn⟩
  · refine wpAny_passesOwn hp (thn (T.item X rfl rfl rfl hc i pins s3 σ3 H3 X.xe I3 (stat fr3) st3 go) fun r s4 ⟨u, hr, h4⟩ => ?_)
    subst hr
    refine wpAny_passesOwn hp (thn h4 fun _ s5 ⟨x, H5, I5, r5, y5, st5, fr5⟩ => ?_)
    have I5' := I5.pinned (stat fr5) (T.obj _ _ st5)
    refine wpAny_passesOwn hp (thn (hg _ s5 σ3 H5 x u _ I5' r5 (step x H5 y5)) fun _ s6 ⟨σ6, H6, I6, q6⟩ => ?_)
    refine wpAny_passesOwn hp (thn (hb _ s6 σ6 H6 _ I6 q6) fun f s7 q7 => ?_)
    have again : ∀ {σ7 : St} {H7 : Hp}, Inv X (pins ++ pinsAt fp s5.heap) σ7 H7 s7 → N σ7 H7 → ∃ m, m < n ∧ ∃ i σ' H', Inv X pins σ' H' s7 ∧ tn i s7.heap ∧ (∀ b ∈ fp, H' b = none) ∧ W i m σ' H' := fun {σ7 H7} I7 n7 => by
      obtain ⟨m', hm, w7⟩ := hN σ7 H7 n7
      refine ⟨m', hm, i + 1, σ7, H7, I7.unpinned, T.keep _ _ _ st5 fun b hb o e => (I7.pin (b, o) (List.mem_append_right _ (List.mem_append_right _ (mem_pinsAt hb e)))).1, fun b hb => ?_, w7⟩
      obtain ⟨o, e, d⟩ := T.obj _ _ st5 b hb
      exact (I7.pin (b, o) (List.mem_append_right _ (List.mem_append_right _ (mem_pinsAt hb e)))).2.1
    cases f with
    | next => obtain ⟨σ7, H7, I7, n7⟩ := q7; exact again I7 n7
    | cont => obtain ⟨σ7, H7, I7, n7⟩ := q7; exact again I7 n7
    | brk => obtain ⟨σ7, H7, I7, q7⟩ := q7; exact ⟨σ7, H7, I7.unpinned, q7⟩
    | ret v => obtain ⟨x7, σ7, H7, I7, r7, q7⟩ := q7; exact ⟨x7, σ7, H7, I7.unpinned, r7, q7⟩
end

/-! ### the forms one uses -/
/-- over a list that the body leaves as it is -/
theorem for_list {K : PySem.W.Frag} {a : Addr} {xs : List V} {g : TG} {tb : TS} {D : Ends} {σ : St} {H : Hp} (Pv : Nat → St → Hp → Prop) (h0 : Pv 0 σ H) (hl : ∀ i σ H, i ≤ xs.length → Pv i σ H → SqL K H a xs)
    (hs : ∀ i x σ H, xs[i]? = some x → Pv i σ H → g x σ H fun σ2 H2 => tb { D with nx := Pv (i + 1), ct := Pv (i + 1), bk := D.nx } σ2 H2) (hd : ∀ σ H, Pv xs.length σ H → D.nx σ H) :
    ∃ W : Nat → Nat → St → Hp → Prop, (∃ m, W 0 m σ H) ∧ ∀ i m σ H, W i m σ H →
      ((Itl K a).stop i H ∧ D.nx σ H) ∨ ((Itl K a).go i H ∧ ∃ N : St → Hp → Prop, (∀ σ' H', N σ' H' → ∃ m', m' < m ∧ W (i + 1) m' σ' H') ∧ ∀ x H', (Itl K a).yld i H x H' → g x σ H' fun σ2 H2 => tb { D with nx := N, ct := N, bk := D.nx } σ2 H2) := by
  refine ⟨fun i m σ H => m = xs.length - i ∧ i ≤ xs.length ∧ Pv i σ H, ⟨xs.length, by simp, Nat.zero_le _, h0⟩, ?_⟩
  rintro i m σ H ⟨rfl, hi, p⟩
  have q := hl i σ H hi p
  by_cases hlt : i < xs.length
  · refine .inr ⟨⟨xs, xs[i], q, by simp [hlt]⟩, Pv (i + 1), fun σ' H' p' => ⟨xs.length - (i + 1), by omega, rfl, hlt, p'⟩, fun x H' y => ?_⟩
    obtain ⟨e, y⟩ := y
    subst e
    exact hs i x σ _ (y xs q) p
  · have e : i = xs.length := by omega
    subst e
    exact .inl ⟨⟨xs, q, Nat.le_refl _⟩, hd σ H p⟩
theorem for_tup {K : PySem.W.Frag} {a : Addr} {xs : List V} {g : TG} {tb : TS} {D : Ends} {σ : St} {H : Hp} (Pv : Nat → St → Hp → Prop) (h0 : Pv 0 σ H) (hl : ∀ i σ H, i ≤ xs.length → Pv i σ H → SqT K H a xs)
    (hs : ∀ i x σ H, xs[i]? = some x → Pv i σ H → g x σ H fun σ2 H2 => tb { D with nx := Pv (i + 1), ct := Pv (i + 1), bk := D.nx } σ2 H2) (hd : ∀ σ H, Pv xs.length σ H → D.nx σ H) :
    ∃ W : Nat → Nat → St → Hp → Prop, (∃ m, W 0 m σ H) ∧ ∀ i m σ H, W i m σ H →
      ((Itt K a).stop i H ∧ D.nx σ H) ∨ ((Itt K a).go i H ∧ ∃ N : St → Hp → Prop, (∀ σ' H', N σ' H' → ∃ m', m' < m ∧ W (i + 1) m' σ' H') ∧ ∀ x H', (Itt K a).yld i H x H' → g x σ H' fun σ2 H2 => tb { D with nx := N, ct := N, bk := D.nx } σ2 H2) := by
  refine ⟨fun i m σ H => m = xs.length - i ∧ i ≤ xs.length ∧ Pv i σ H, ⟨xs.length, by simp, Nat.zero_le _, h0⟩, ?_⟩
  rintro i m σ H ⟨rfl, hi, p⟩
  have q := hl i σ H hi p
  by_cases hlt : i < xs.length
  · refine .inr ⟨⟨xs, xs[i], q, by simp [hlt]⟩, Pv (i + 1), fun σ' H' p' => ⟨xs.length - (i + 1), by omega, rfl, hlt, p'⟩, fun x H' y => ?_⟩
    obtain ⟨e, y⟩ := y
    subst e
    exact hs i x σ _ (y xs q) p
  · have e : i = xs.length := by omega
    subst e
    exact .inl ⟨⟨xs, q, Nat.le_refl _⟩, hd σ H p⟩
end L2

namespace L2
open PySem PySem.Spec PyProof.Rows

abbrev R2 := V → V → Hp → VK → Prop
/-- a two-place operation on values: f is binaryOp op, inplaceOp op or compareOp op -/
def OpR (X : Cx) (f : Value → Value → Sem Value) (r : R2) : Prop :=
  ∀ (pins : List (Addr × Obj)) (s : Shared) (σ : St) (H : Hp) (x y : V) (v u : Value) (Q : VK), Inv X pins σ H s → RelV x v → RelV y u → r x y H Q →
    wpAny (model X.prog X.w) X.A (f v u) (EP X pins σ Q) X.xe s
/-- a one-place operation -/
def UnR (X : Cx) (f : Value → Sem Value) (r : V → Hp → VK → Prop) : Prop :=
  ∀ (pins : List (Addr × Obj)) (s : Shared) (σ : St) (H : Hp) (x : V) (v : Value) (Q : VK), Inv X pins σ H s → RelV x v → r x H Q →
    wpAny (model X.prog X.w) X.A (f v) (EP X pins σ Q) X.xe s
/-- a call of a value that is known (a builtin, a type) with values -/
def CallR (X : Cx) (f : Value) (r : List V → Hp → VK → Prop) : Prop :=
  ∀ (pins : List (Addr × Obj)) (s : Shared) (σ : St) (H : Hp) (xs : List V) (us : List Value) (Q : VK), Inv X pins σ H s → Vals xs us → r xs H Q →
    wpAny (model X.prog X.w) X.A (call f us) (EP X pins σ Q) X.xe s
/-- a value's truth -/
def TruR (X : Cx) (r : V → Hp → (Bool → Hp → Prop) → Prop) : Prop :=
  ∀ (pins : List (Addr × Obj)) (s : Shared) (σ : St) (H : Hp) (x : V) (v : Value) (Q : Bool → Hp → Prop), Inv X pins σ H s → RelV x v → r x H Q →
    wpAny (model X.prog X.w) X.A (truthy v) (TP X pins σ Q) X.xe s

def tOp (r : R2) (ta tb : TE) : TE := fun σ H Q => ta σ H fun x H1 => tb σ H1 fun y H2 => r x y H2 Q
def tUn (r : V → Hp → VK → Prop) (ta : TE) : TE := fun σ H Q => ta σ H fun x H1 => r x H1 Q
/-- ints in, under C, and a value out -/
def rI (C : Int → Int → Prop) (g : Int → Int → V) : R2 := fun x y H Q => ∃ i j, x = .int i ∧ y = .int j ∧ C i j ∧ Q (g i j) H
def rI0 (g : Int → Int → V) : R2 := fun x y H Q => ∃ i j, x = .int i ∧ y = .int j ∧ Q (g i j) H
def rU (g : Int → V) : V → Hp → VK → Prop := fun x H Q => ∃ i, x = .int i ∧ Q (g i) H

section
variable {X : Cx} {a b c : Expr} {ta tb tc : TE} {pos : Pos}

theorem binT (ha : PE X a ta) (hb : PE X b tb) {pins : List (Addr × Obj)} {s : Shared} {σ : St} {H : Hp} {R : V → V → Hp → Prop} (I : Inv X pins σ H s)
    (h : ta σ H fun x H1 => tb σ H1 fun y H2 => R x y H2) {Q : Value → Shared → Prop} {f : Value → Value → Sem Value}
    (hf : ∀ v u s2 x y H2, Inv X pins σ H2 s2 → RelV x v → RelV y u → R x y H2 → wpAny (model X.prog X.w) X.A (f v u) Q X.xe s2) :
    wpAny (model X.prog X.w) X.A (eval a X.env) (fun v s₁ => wpAny (model X.prog X.w) X.A (eval b X.env) (fun u s₂ => wpAny (model X.prog X.w) X.A (f v u) Q X.xe s₂) X.xe s₁) X.xe s := by
  refine thn (ha pins s σ H _ I h) fun v s1 ⟨x, H1, I1, r1, q1⟩ => ?_
  refine thn (hb pins s1 σ H1 _ I1 q1) fun u s2 ⟨y, H2, I2, r2, q2⟩ => ?_
  exact hf v u s2 x y H2 I2 r1 r2 q2

theorem pe_op {op : Operator} {r : R2} (ho : OpR X (binaryOp op) r) (ha : PE X a ta) (hb : PE X b tb) : PE X (.BinOp a op b pos) (tOp r ta tb) := by
  intro pins s σ H Q I h
  exact wpAny_BinOp (binT ha hb I h fun v u s2 x y H2 I2 rx ry q => ho pins s2 σ H2 x y v u Q I2 rx ry q)
theorem pe_un {op : UnaryOp} {r : V → Hp → VK → Prop} (ho : UnR X (unaryOp op) r) (ha : PE X a ta) : PE X (.UnaryOp op a pos) (tUn r ta) := by
  intro pins s σ H Q I h
  exact UnaryOp_ (thn (ha pins s σ H _ I h) fun v s1 ⟨x, H1, I1, r1, q1⟩ => ho pins s1 σ H1 x v Q I1 r1 q1)
/-! ### ints -/
theorem opI {f : Value → Value → Sem Value} {C : Int → Int → Prop} {g : Int → Int → Int}
    (rule : ∀ (i j : Int) (t u : Tok) (s : Shared) (Q : Value → Shared → Prop) (E : Value → Shared → Prop), C i j → Q (.int (g i j) s.toks) { s with toks := s.toks + 1 } → wpAny (model X.prog X.w) X.A (f (.int i t) (.int j u)) Q E s) :
    OpR X f (rI C fun i j => .int (g i j)) := by
  intro pins s σ H x y v u Q I rx ry h
  obtain ⟨i, j, rfl, rfl, hc, q⟩ := h
  obtain ⟨t, rfl⟩ := rx
  obtain ⟨t', rfl⟩ := ry
  exact rule i j t t' s _ _ hc ⟨.int (g i j), H, I.tok _, ⟨_, rfl⟩, q⟩
theorem opI0 {f : Value → Value → Sem Value} {g : Int → Int → Int}
    (rule : ∀ (i j : Int) (t u : Tok) (s : Shared) (Q : Value → Shared → Prop) (E : Value → Shared → Prop), Q (.int (g i j) s.toks) { s with toks := s.toks + 1 } → wpAny (model X.prog X.w) X.A (f (.int i t) (.int j u)) Q E s) :
    OpR X f (rI0 fun i j => .int (g i j)) := by
  intro pins s σ H x y v u Q I rx ry h
  obtain ⟨i, j, rfl, rfl, q⟩ := h
  obtain ⟨t, rfl⟩ := rx
  obtain ⟨t', rfl⟩ := ry
  exact rule i j t t' s _ _ ⟨.int (g i j), H, I.tok _, ⟨_, rfl⟩, q⟩
theorem opB0 {f : Value → Value → Sem Value} {g : Int → Int → Bool}
    (rule : ∀ (i j : Int) (t u : Tok) (s : Shared) (Q : Value → Shared → Prop) (E : Value → Shared → Prop), Q (.bool (g i j)) s → wpAny (model X.prog X.w) X.A (f (.int i t) (.int j u)) Q E s) :
    OpR X f (rI0 fun i j => .bl (g i j)) := by
  intro pins s σ H x y v u Q I rx ry h
  obtain ⟨i, j, rfl, rfl, q⟩ := h
  obtain ⟨t, rfl⟩ := rx
  obtain ⟨t', rfl⟩ := ry
  exact rule i j t t' s _ _ ⟨.bl (g i j), H, I, rfl, q⟩

def CDiv (i j : Int) : Prop := 0 < j ∧ j < 1073741824
def CDivN (i j : Int) : Prop := j ≠ 0 ∧ j.natAbs < 1073741824
def CPow (i j : Int) : Prop := 0 ≤ j ∧ j ≤ 1000000 ∧ i.natAbs < 2 ^ 64
def CMul (i j : Int) : Prop := (-(2 ^ 64) < i ∧ i < 2 ^ 64) ∨ (-(2 ^ 64) < j ∧ j < 2 ^ 64)
theorem CMul.ok {i j : Int} (h : CMul i j) : IntMulOk i j := by
  rcases h with ⟨h1, h2⟩ | ⟨h1, h2⟩
  · exact .of_left (intBits_le_64 h1 h2)
  · exact .of_right (intBits_le_64 h1 h2)
theorem op_add : OpR X (binaryOp .Add) (rI0 fun i j => .int (i + j)) := opI0 fun _ _ _ _ _ _ _ q => add_int q
theorem op_sub : OpR X (binaryOp .Sub) (rI0 fun i j => .int (i - j)) := opI0 fun _ _ _ _ _ _ _ q => sub_int q
theorem op_mul : OpR X (binaryOp .Mult) (rI CMul fun i j => .int (i * j)) := opI fun _ _ _ _ _ _ _ hc q => mul_int q hc.ok
/-- // by a positive divisor -/
theorem op_fdiv : OpR X (binaryOp .FloorDiv) (rI CDiv fun i j => .int (i / j)) := opI fun i j _ _ _ _ _ hc q => by
  have h1 : (0 : Int) < j := hc.1
  have h2 : j < 1073741824 := hc.2
  exact floordiv_int (by omega) (by rw [Int.fdiv_eq_ediv_of_nonneg i (by omega)]; exact q) (.inl (PyProof.noPylong_small (by omega)))
/-- % by a positive divisor of any size -/
theorem op_mod : OpR X (binaryOp .Mod) (rI (fun _ j => 0 < j) fun i j => .int (i % j)) := opI fun i j _ _ _ _ _ hc q => by
  have h1 : (0 : Int) < j := hc
  exact mod_int' (by omega) (by rw [Int.fmod_eq_emod_of_nonneg i (by omega)]; exact q)
theorem op_pow : OpR X (binaryOp .Pow) (rI CPow fun i j => .int (i ^ j.toNat)) := opI fun _ _ _ _ _ _ _ hc q => pow_int_small hc.1 hc.2.1 hc.2.2 q
theorem unI {f : Value → Sem Value} {g : Int → Int}
    (rule : ∀ (i : Int) (t : Tok) (s : Shared) (Q : Value → Shared → Prop) (E : Value → Shared → Prop), Q (.int (g i) s.toks) { s with toks := s.toks + 1 } → wpAny (model X.prog X.w) X.A (f (.int i t)) Q E s) :
    UnR X f (rU fun i => .int (g i)) := by
  intro pins s σ H x v Q I rx h
  obtain ⟨i, rfl, q⟩ := h
  obtain ⟨t, rfl⟩ := rx
  exact rule i t s _ _ ⟨.int (g i), H, I.tok _, ⟨_, rfl⟩, q⟩
theorem un_neg : UnR X (unaryOp .USub) (rU fun i => .int (-i)) := unI fun _ _ _ _ _ q => neg_int q
/-! ### bools among ints: n += (a < b) -/
end

/-! ### comparisons -/
/-- the scalars that == tells apart as data does -/
def scal : V → V → Bool
  | .non, .non => true | .non, .int _ => true | .int _, .non => true | .non, .bl _ => true | .bl _, .non => true | .non, .str _ => true | .str _, .non => true
  | .int _, .int _ => true | .bl _, .bl _ => true | .str _, .str _ => true | .byt _, .byt _ => true
  | .int _, .str _ => true | .str _, .int _ => true | .bl _, .str _ => true | .str _, .bl _ => true
  | _, _ => false
def rEq : R2 := fun x y H Q => scal x y = true ∧ Q (.bl (decide (x = y))) H
def rNe : R2 := fun x y H Q => scal x y = true ∧ Q (.bl (!decide (x = y))) H

theorem dec_int {i j : Int} : decide (V.int i = V.int j) = (i == j) := by
  rw [Bool.eq_iff_iff]
  simp
theorem dec_bl {i j : Bool} : decide (V.bl i = V.bl j) = (i == j) := by
  rw [Bool.eq_iff_iff]
  simp
theorem dec_str {i j : Str} : decide (V.str i = V.str j) = (i == j) := by
  rw [Bool.eq_iff_iff]
  simp
theorem dec_byt {i j : Array UInt8} : decide (V.byt i = V.byt j) = (i.toList == j.toList) := by
  rw [Bool.eq_iff_iff]
  cases i
  cases j
  simp

section
variable {X : Cx} {a b c : Expr} {ta tb tc : TE} {pos : Pos}
theorem fin_bl {pins : List (Addr × Obj)} {σ : St} {H : Hp} {s : Shared} {Q : VK} {k k' : Bool} (I : Inv X pins σ H s) (q : Q (.bl k) H) (e : k = k') : EP X pins σ Q (.bool k') s := by
  subst e
  exact ⟨.bl k, H, I, rfl, q⟩
theorem op_eq : OpR X (compareOp .Eq) rEq := by
  intro pins s σ H x y v u Q I rx ry h
  obtain ⟨hs, q⟩ := h
  cases x with
  | non =>
    cases rx
    cases y with
    | non => cases ry; exact PySem.EqNone.eq_none_none (fin_bl I q (by simp))
    | bl j => cases ry; exact PySem.EqNone.eq_none_bool (fin_bl I q (by simp))
    | int j => obtain ⟨t', rfl⟩ := ry; exact PySem.EqNone.eq_none_int (fin_bl I q (by simp))
    | str j => obtain ⟨t', rfl⟩ := ry; exact PySem.EqNone.eq_none_str (fin_bl I q (by simp))
    | _ => exact absurd (show false = true from hs) Bool.false_ne_true
  | bl i =>
    cases rx
    cases y with
    | non => cases ry; exact PySem.EqNone.eq_bool_none (fin_bl I q (by simp))
    | bl j => cases ry; exact eq_bool (fin_bl I q dec_bl)
    | str j => obtain ⟨t', rfl⟩ := ry; exact PySem.EqMixed.eq_bool_str (fin_bl I q (by simp))
    | _ => exact absurd (show false = true from hs) Bool.false_ne_true
  | int i =>
    obtain ⟨t, rfl⟩ := rx
    cases y with
    | non => cases ry; exact PySem.EqNone.eq_int_none (fin_bl I q (by simp))
    | int j => obtain ⟨t', rfl⟩ := ry; exact eq_int (fin_bl I q dec_int)
    | str j => obtain ⟨t', rfl⟩ := ry; exact PySem.EqMixed.eq_int_str (fin_bl I q (by simp))
    | _ => exact absurd (show false = true from hs) Bool.false_ne_true
  | str i =>
    obtain ⟨t, rfl⟩ := rx
    cases y with
    | non => cases ry; exact PySem.EqNone.eq_str_none (fin_bl I q (by simp))
    | bl j => cases ry; exact PySem.EqMixed.eq_str_bool (fin_bl I q (by simp))
    | int j => obtain ⟨t', rfl⟩ := ry; exact PySem.EqMixed.eq_str_int (fin_bl I q (by simp))
    | str j => obtain ⟨t', rfl⟩ := ry; exact eq_str (fin_bl I q dec_str)
    | _ => exact absurd (show false = true from hs) Bool.false_ne_true
  | byt i =>
    obtain ⟨t, rfl⟩ := rx
    cases y with
    | byt j => obtain ⟨t', rfl⟩ := ry; exact PySem.W.eq_bytes (fin_bl I q dec_byt)
    | _ => exact absurd (show false = true from hs) Bool.false_ne_true
  | _ => cases y <;> exact absurd (show false = true from hs) Bool.false_ne_true
theorem op_ne : OpR X (compareOp .NotEq) rNe := by
  intro pins s σ H x y v u Q I rx ry h
  obtain ⟨hs, q⟩ := h
  cases x with
  | non =>
    cases rx
    cases y with
    | non => cases ry; exact PySem.EqNone.ne_none_none (fin_bl I q (by simp))
    | bl j => cases ry; exact PySem.EqNone.ne_none_bool (fin_bl I q (by simp))
    | int j => obtain ⟨t', rfl⟩ := ry; exact PySem.EqNone.ne_none_int (fin_bl I q (by simp))
    | str j => obtain ⟨t', rfl⟩ := ry; exact PySem.EqNone.ne_none_str (fin_bl I q (by simp))
    | _ => exact absurd (show false = true from hs) Bool.false_ne_true
  | bl i =>
    cases rx
    cases y with
    | non => cases ry; exact PySem.EqNone.ne_bool_none (fin_bl I q (by simp))
    | bl j => cases ry; exact ne_bool (fin_bl I q (congrArg not dec_bl))
    | str j => obtain ⟨t', rfl⟩ := ry; exact PySem.EqMixed.ne_bool_str (fin_bl I q (by simp))
    | _ => exact absurd (show false = true from hs) Bool.false_ne_true
  | int i =>
    obtain ⟨t, rfl⟩ := rx
    cases y with
    | non => cases ry; exact PySem.EqNone.ne_int_none (fin_bl I q (by simp))
    | int j => obtain ⟨t', rfl⟩ := ry; exact ne_int (fin_bl I q (congrArg not dec_int))
    | str j => obtain ⟨t', rfl⟩ := ry; exact PySem.EqMixed.ne_int_str (fin_bl I q (by simp))
    | _ => exact absurd (show false = true from hs) Bool.false_ne_true
  | str i =>
    obtain ⟨t, rfl⟩ := rx
    cases y with
    | non => cases ry; exact PySem.EqNone.ne_str_none (fin_bl I q (by simp))
    | bl j => cases ry; exact PySem.EqMixed.ne_str_bool (fin_bl I q (by simp))
    | int j => obtain ⟨t', rfl⟩ := ry; exact PySem.EqMixed.ne_str_int (fin_bl I q (by simp))
    | str j => obtain ⟨t', rfl⟩ := ry; exact ne_str (fin_bl I q (congrArg not dec_str))
    | _ => exact absurd (show false = true from hs) Bool.false_ne_true
  | byt i =>
    obtain ⟨t, rfl⟩ := rx
    cases y with
    | byt j => obtain ⟨t', rfl⟩ := ry; exact PySem.W.ne_bytes (fin_bl I q (congrArg not dec_byt))
    | _ => exact absurd (show false = true from hs) Bool.false_ne_true
  | _ => cases y <;> exact absurd (show false = true from hs) Bool.false_ne_true

theorem op_lt : OpR X (compareOp .Lt) (rI0 fun i j => .bl (decide (i < j))) := opB0 fun _ _ _ _ _ _ _ q => lt_int q
theorem op_le : OpR X (compareOp .LtE) (rI0 fun i j => .bl (decide (i ≤ j))) := opB0 fun _ _ _ _ _ _ _ q => le_int q
theorem op_gt : OpR X (compareOp .Gt) (rI0 fun i j => .bl (decide (j < i))) := opB0 fun _ _ _ _ _ _ _ q => gt_int q
theorem op_ge : OpR X (compareOp .GtE) (rI0 fun i j => .bl (decide (j ≤ i))) := opB0 fun _ _ _ _ _ _ _ q => ge_int q
/-- the one string within the other -/
theorem op_in_str : OpR X (compareOp .In) (fun x y H Q => ∃ i j, x = .str i ∧ y = .str j ∧ Q (.bl (!(Builtin.Str.occurrences j i 0 j.length 1).isEmpty)) H) := by
  intro pins s σ H x y v u Q I rx ry h
  obtain ⟨i, j, rfl, rfl, q⟩ := h
  obtain ⟨t, rfl⟩ := rx
  obtain ⟨t', rfl⟩ := ry
  exact in_str (fin_bl I q rfl)

/-- is None, is not None: the right side a value none -/
theorem op_isN : OpR X (compareOp .Is) (fun x y H Q => y = .non ∧ Q (.bl (decide (x = .non))) H) := by
  intro pins s σ H x y v u Q I rx ry h
  obtain ⟨rfl, q⟩ := h
  cases ry
  refine is_none_gen (fin_bl I q ?_)
  cases x <;> first
    | (cases rx; rfl)
    | (obtain ⟨t, rfl⟩ := rx; rfl)
/-- is, is not of two objects that are tracked lists or instances -/
def isObj : HO → Bool
  | .lst _ => true
  | .ins _ _ _ => true
  | _ => false
theorem nomark (b : Expr) {op : CmpOp} (h : op ≠ .In := by decide) (h2 : op ≠ .NotIn := by decide) : behindInMarks op b = false := by
  have e1 : (op == CmpOp.In) = false := by cases op <;> first | rfl | exact absurd rfl h
  have e2 : (op == CmpOp.NotIn) = false := by cases op <;> first | rfl | exact absurd rfl h2
  cases b <;> simp [behindInMarks, e1, e2]
/-- a comparison as a value; hm: nomark b, or (for in, not in) by with_unfolding_all rfl -/
theorem pe_cmpR {op : CmpOp} {r : R2} (ho : OpR X (compareOp op) r) (ha : PE X a ta) (hb : PE X b tb) (hm : behindInMarks op b = false) : PE X (.Compare a [op] [b] pos) (tOp r ta tb) := by
  intro pins s σ H Q I h
  exact wpAny_Compare1 (binT ha hb I h fun v u s2 x y H2 I2 rx ry q => ho pins s2 σ H2 x y v u Q I2 rx ry q) hm
/-- a reading of a value as a test -/
def tTest (t : TE) : TT := fun σ H Q => t σ H fun x H' => ∃ k, x = .bl k ∧ Q k H'
theorem pt_cmpR {op : CmpOp} {r : R2} (ho : OpR X (compareOp op) r) (ha : PE X a ta) (hb : PE X b tb) (hm : behindInMarks op b = false) : PT X (.Compare a [op] [b] pos) (tTest (tOp r ta tb)) := by
  intro pins s σ H Q I h
  refine wpAny_isTrue_Compare1 (thn (ha pins s σ H _ I h) fun v s1 ⟨x, H1, I1, r1, q1⟩ => thn (hb pins s1 σ H1 _ I1 q1) fun u s2 ⟨y, H2, I2, r2, q2⟩ =>
    thn (ho pins s2 σ H2 x y v u _ I2 r1 r2 q2) fun c s3 ⟨z, H3, I3, r3, k, e, q3⟩ => ?_) hm
  subst e
  cases r3
  exact wpAny_truthy_bool ⟨H3, I3, q3⟩
/-- a op1 b op2 c -/
def tChain (r r' : R2) (ta tb tc : TE) : TE := fun σ H Q => ta σ H fun x H1 => tb σ H1 fun y H2 => r x y H2 fun z H3 => ∃ k, z = .bl k ∧
  (if k = true then tc σ H3 fun w' H4 => r' y w' H4 Q else Q (.bl false) H3)
theorem pe_chain {op op' : CmpOp} {r r' : R2} (ho : OpR X (compareOp op) r) (ho' : OpR X (compareOp op') r') (ha : PE X a ta) (hb : PE X b tb) (hc : PE X c tc)
    (hm : lastMarks [op, op'] [b, c] = false := by with_unfolding_all rfl) : PE X (.Compare a [op, op'] [b, c] pos) (tChain r r' ta tb tc) := by
  intro pins s σ H Q I h
  refine Compare_chain (thn (ha pins s σ H _ I h) fun v s1 ⟨x, H1, I1, r1, q1⟩ => chain_link (thn (hb pins s1 σ H1 _ I1 q1) fun u s2 ⟨y, H2, I2, r2, q2⟩ =>
    thn (ho pins s2 σ H2 x y v u _ I2 r1 r2 q2) fun d s3 ⟨z, H3, I3, r3, k, e, q3⟩ => ?_)) hm
  subst e
  cases r3
  refine wpAny_truthy_bool ?_
  cases k with
  | false => exact ite_ff ⟨.bl false, H3, I3, rfl, q3⟩
  | true => exact ite_tt (chain_last (thn (hc pins s3 σ H3 _ I3 q3) fun w' s4 ⟨z', H4, I4, r4, q4⟩ => ho' pins s4 σ H4 y z' u w' Q I4 r2 r4 q4))
theorem pt_chain {op op' : CmpOp} {r r' : R2} (ho : OpR X (compareOp op) r) (ho' : OpR X (compareOp op') r') (ha : PE X a ta) (hb : PE X b tb) (hc : PE X c tc)
    (hm : lastMarks [op, op'] [b, c] = false := by with_unfolding_all rfl) : PT X (.Compare a [op, op'] [b, c] pos) (tTest (tChain r r' ta tb tc)) := by
  intro pins s σ H Q I h
  refine isTrue_chain (thn (ha pins s σ H _ I h) fun v s1 ⟨x, H1, I1, r1, q1⟩ => test_link (thn (hb pins s1 σ H1 _ I1 q1) fun u s2 ⟨y, H2, I2, r2, q2⟩ =>
    thn (ho pins s2 σ H2 x y v u _ I2 r1 r2 q2) fun d s3 ⟨z, H3, I3, r3, k, e, q3⟩ => ?_)) hm
  subst e
  cases r3
  refine wpAny_truthy_bool ?_
  cases k with
  | false =>
    obtain ⟨k', e', q'⟩ := q3
    cases e'
    exact ite_ff ⟨H3, I3, q'⟩
  | true =>
    refine ite_tt (test_last (thn (hc pins s3 σ H3 _ I3 q3) fun w' s4 ⟨z', H4, I4, r4, q4⟩ => thn (ho' pins s4 σ H4 y z' u w' _ I4 r2 r4 q4) fun d' s5 ⟨z2, H5, I5, r5, k2, e2, q5⟩ => ?_))
    subst e2
    cases r5
    exact wpAny_truthy_bool ⟨H5, I5, q5⟩

/-! ### truth -/
/-- a value's truth by the abstract heap -/
def TruV (K : PySem.W.Frag) (x : V) (H : Hp) (k : Bool) : Prop :=
  match x with
  | .non => k = false
  | .bl b => k = b
  | .int i => k = (i != 0)
  | .str y => y.length ≤ sizeLine ∧ k = ((y.length : Int) != 0)
  | .byt y => y.size ≤ sizeLine ∧ k = ((y.size : Int) != 0)
  | .ref p => (∃ xs, SqL K H p xs ∧ k = !xs.isEmpty) ∨ (∃ xs, SqT K H p xs ∧ k = !xs.isEmpty) ∨ ∃ kvs, H p = some (.dK kvs) ∧ k = !kvs.isEmpty
  | _ => False
theorem isEmpty_kv {κ : Type} {kvs : List (κ × V)} {vs : List (κ × Value)} (r : KV kvs vs) : (!vs.isEmpty) = !kvs.isEmpty := by
  cases r <;> rfl
theorem isEmpty_of {xs : List V} {its : List Value} (r : Vals xs its) : (!its.toArray.isEmpty) = !xs.isEmpty := by
  cases r <;> simp
theorem line63 : (sizeLine : Nat) < 2 ^ 63 := by rw [sizeLine_eq]; decide
theorem tru_ok : TruR X (fun x H Q => ∃ k, TruV X.K x H k ∧ Q k H) := by
  intro pins s σ H x v Q I rx h
  obtain ⟨k, e, q⟩ := h
  have hl := line63
  have hs : sizeLine = 16777216 := sizeLine_eq
  cases x with
  | non =>
    cases rx
    have e' : k = false := e
    subst e'
    exact truthy_none ⟨H, I, q⟩
  | bl b =>
    cases rx
    have e' : k = b := e
    subst e'
    exact wpAny_truthy_bool ⟨H, I, q⟩
  | int i =>
    obtain ⟨t, rfl⟩ := rx
    have e' : k = (i != 0) := e
    subst e'
    exact PySem.P.truthy_int ⟨H, I, q⟩
  | str y =>
    obtain ⟨t, rfl⟩ := rx
    obtain ⟨hy, e'⟩ : y.length ≤ sizeLine ∧ k = ((y.length : Int) != 0) := e
    subst e'
    exact PySem.P.truthy_str (by omega) ⟨H, I.tok _, q⟩
  | byt y =>
    obtain ⟨t, rfl⟩ := rx
    obtain ⟨hy, e'⟩ : y.size ≤ sizeLine ∧ k = ((y.size : Int) != 0) := e
    subst e'
    exact PySem.W.truthy_bytes (by omega) ⟨H, I.tok _, q⟩
  | ref p =>
    cases rx
    have e' : (∃ xs, SqL X.K H p xs ∧ k = !xs.isEmpty) ∨ (∃ xs, SqT X.K H p xs ∧ k = !xs.isEmpty) ∨ ∃ kvs, H p = some (.dK kvs) ∧ k = !kvs.isEmpty := e
    rcases e' with ⟨xs, hx, e'⟩ | ⟨xs, hx, e'⟩ | ⟨kvs, hx, e'⟩
    · subst e'
      obtain ⟨its, r, pl, hz⟩ := I.list hx
      have hlen := r.length
      exact wpAny_truthy_list pl.isList (by simp only [List.size_toArray]; omega) ⟨H, I.tok _, by rw [isEmpty_of r]; exact q⟩
    · subst e'
      obtain ⟨its, r, pl, hz⟩ := I.tuple hx
      have hlen := r.length
      exact truthy_tuple pl (by simp only [List.size_toArray]; omega) ⟨H, I.tok _, by rw [isEmpty_of r]; exact q⟩
    · subst e'
      obtain ⟨hz, hS, vs, r, m⟩ : kvs.length ≤ sizeLine ∧ (p == sysModules) = false ∧ ∃ vs, KV kvs vs ∧ s.heap.DictOf (mixKind X.prog X.w) p vs := I.hok p _ hx
      have hlen : kvs.length = vs.length := Paired.length r
      exact wpAny_truthy_dict hS m (by omega) ⟨H, I.tok _, by rw [isEmpty_kv r]; exact q⟩
  | _ => exact (show False from e).elim
/-- any expression whose test is its value's truth (a name, a call, a subscript, a field ..: he by fun _ => rfl) -/
theorem pt_truth (ha : PE X a ta) (he : ∀ whole, isTrue a X.env whole = (do let v ← whole; standAt a.pos; holding [v] (truthy v))) :
    PT X a (fun σ H Q => ta σ H fun x H' => ∃ k, TruV X.K x H' k ∧ Q k H') := by
  intro pins s σ H Q I h
  exact isTrue_plain (thn (ha pins s σ H _ I h) fun v s1 ⟨x, H1, I1, r1, q1⟩ => tru_ok pins s1 σ H1 x v Q I1 r1 q1) (he _)

/-! ### strs and bytes -/
theorem op_add_str : OpR X (binaryOp .Add) (fun x y H Q => ∃ i j, x = .str i ∧ y = .str j ∧ i.length + j.length ≤ sizeLine ∧ Q (.str (i ++ j)) H) := by
  intro pins s σ H x y v u Q I rx ry h
  obtain ⟨i, j, rfl, rfl, hz, q⟩ := h
  obtain ⟨t, rfl⟩ := rx
  obtain ⟨t', rfl⟩ := ry
  exact add_str (fun t' tk => ⟨.str (i ++ j), H, I.tok _, ⟨_, rfl⟩, q⟩) hz
def PlainIxT (b : Expr) : Prop := ∀ o i, subscripted b false o i = operate [o, i] (getItem o i)
/-! ### scalar builtins, by CallR -/
theorem vals1 {x : V} {us : List Value} (r : Vals [x] us) : ∃ u, us = [u] ∧ RelV x u := by
  cases r with
  | cons r1 r2 => cases r2; exact ⟨_, rfl, r1⟩
theorem vals2 {x y : V} {us : List Value} (r : Vals [x, y] us) : ∃ u w', us = [u, w'] ∧ RelV x u ∧ RelV y w' := by
  cases r with
  | cons r1 r2 =>
    cases r2 with
    | cons r3 r4 => cases r4; exact ⟨_, _, rfl, r1, r3⟩
theorem call_str_int : CallR X (.type "str") (fun xs H Q => ∃ i, xs = [.int i] ∧ i.natAbs.log2 < 1920 ∧ Q (.str (toString i)) H) := by
  intro pins s σ H xs us Q I r h
  obtain ⟨i, rfl, hz, q⟩ := h
  obtain ⟨u, rfl, t, rfl⟩ := vals1 r
  exact PySem.P.str_of_int hz ⟨.str _, H, I.tok _, ⟨_, rfl⟩, q⟩
/-- len of a str, a bytes, a list, a tuple -/
def LenV (K : PySem.W.Frag) (x : V) (H : Hp) (n : Nat) : Prop :=
  match x with
  | .str y => y.length ≤ sizeLine ∧ n = y.length
  | .byt y => y.size ≤ sizeLine ∧ n = y.size
  | .ref p => (∃ xs, SqL K H p xs ∧ n = xs.length) ∨ ∃ xs, SqT K H p xs ∧ n = xs.length
  | _ => False
end
end L2

namespace L2
open PySem PySem.Spec PyProof.Rows

/-! ### an instance, its attributes a map -/
structure ObjM (h : Heap) (x dx C : Addr) (mA : Str → Option Value) : Prop where
  obj : h.get? x = some (PySem.W.instObj C dx)
  ns : h.Ns1 dx mA
  ne : dx ≠ x

theorem lookIn_ns {h : Heap} {dx : Addr} {mA : Str → Option Value} (n : h.Ns1 dx mA) : ∃ od, h.get? dx = some od ∧ ∀ name, PySem.W.lookIn name od = some (mA name) := by
  obtain ⟨o, es, ep, ho, hd, hk, _, hm⟩ := n
  refine ⟨o, ho, fun name => ?_⟩
  have e := hm name
  unfold nsFind findBy at e
  rw [← Array.find?_toList] at e
  unfold PySem.W.lookIn
  rw [hd]
  dsimp only
  split
  · rename_i y q
    rw [q] at e
    exact congrArg some e
  · rename_i q
    rw [q] at e
    have a : es.toList.any (·.refKey) = false := by
      rw [List.any_eq_false]
      intro y hy
      obtain ⟨z, t, hkey⟩ := hk y (Array.mem_toList_iff.mp hy)
      simp [DictEntry.refKey, hkey]
    have a' : ¬ es.toList.any (·.refKey) = true := by rw [a]; exact Bool.false_ne_true
    rw [if_neg a']
    exact congrArg some e

theorem ObjM.look {h : Heap} {x dx C : Addr} {mA : Str → Option Value} (I : ObjM h x dx C mA) : ∃ od, PySem.W.InstAt h x (PySem.W.instObj C dx) C (some od) ∧ ∀ name, PySem.W.lookIn name od = some (mA name) :=
  let ⟨od, ho, hl⟩ := lookIn_ns I.ns
  ⟨od, ⟨I.obj, rfl, rfl, ho⟩, hl⟩

section
variable {prog : Program} {w : World} {A : Around} {E : Value → Shared → Prop} {s : Shared} {K : PySem.W.Frag} {x dx C f : Addr} {mA : Str → Option Value} {name : Str} {v : Value}

end

/-! ### the attributes as a list of pairs -/
def putF (f : Str) (v : V) : List (Str × V) → List (Str × V)
  | [] => [(f, v)]
  | (g, x) :: r => if g = f then (g, v) :: r else (g, x) :: putF f v r
theorem RelO.some_of {v : V} {o : Option Value} (r : RelO (some v) o) : ∃ u, o = some u ∧ RelV v u := by
  cases o with
  | none => exact (show False from r).elim
  | some u => exact ⟨u, rfl, r⟩
section
variable {P : Program} {w : World} {H H' : Hp} {h h' : Heap} {a C dx : Addr} {fs fs' : List (Str × V)}
theorem ins_get (hok : HOk P w H h) (e : H a = some (.ins C dx fs)) : ∃ mA, ObjM h a dx C mA ∧ (∀ f, RelO (fs.lookup f) (mA f)) ∧ PySem.Within mA (fs.map (·.1)) ∧ fs.length ≤ 1000 ∧ H dx = some (.own a) := by
  obtain ⟨d, z, ne, ob, mA, n, r, q⟩ := (show ObjOk P w H h a (.ins C dx fs) from hok a _ e)
  exact ⟨mA, ⟨ob, n, ne⟩, r, q, z, d⟩
end

/-! ### what of the text a class must have -/
structure Cls (K : PySem.W.Frag) (C : Addr) : Prop where
  pg : PySem.W.plainGet K C Str.empty = true
  hd : PySem.W.hasDictIn K C = true
  po : PySem.W.plainOver K C = true
  sa : PySem.W.findIn K (.ref C) "__setattr__" = some (some (.builtin "object.__setattr__"))
theorem Cls.get {K : PySem.W.Frag} {C : Addr} (c : Cls K C) (f : Str) : PySem.W.plainGet K C f = true := c.pg
/-- no class of it has the name -/
def NoAttr (K : PySem.W.Frag) (C : Addr) (f : Str) : Prop := PySem.W.findIn K (.ref C) f = some none
/-- a constant of the class -/
structure Con (K : PySem.W.Frag) (C : Addr) (f : Str) (v : V) (u : Value) : Prop where
  at_ : PySem.W.findIn K (.ref C) f = some (some u)
  rel : RelV v u
  get : PySem.W.specialIn K u "__get__" = some none
  cp : PySem.W.copiedNames.contains f = false
/-- a method: a plain def of the class or of one above it -/
structure Meth (K : PySem.W.Frag) (C : Addr) (m : Str) (f : Addr) : Prop where
  at_ : PySem.W.findIn K (.ref C) m = some (some (.ref f))
  fn : PySem.W.isFn K (.ref f) = true
  kp : PySem.W.keepIn K (.ref f) = true

section
variable {X : Cx} {pins : List (Addr × Obj)} {σ : St} {H : Hp} {s : Shared} {a C dx : Addr} {fs : List (Str × V)} {f : Str} {v : V} {A : Around} {E : Value → Shared → Prop}

end

/-! ### readings and rules -/
/-- e.f, an attribute of the instance -/
def tFld (K : PySem.W.Frag) (ta : TE) (f : Str) : TE := fun σ H Q => ta σ H fun x H1 => ∃ a C dx fs v, x = .ref a ∧ H1 a = some (.ins C dx fs) ∧ Cls K C ∧ NoAttr K C f ∧ fs.lookup f = some v ∧ Q v H1
/-- e.f, a constant of the class -/
def tCon (K : PySem.W.Frag) (ta : TE) (f : Str) : TE := fun σ H Q => ta σ H fun x H1 => ∃ a C dx fs v u, x = .ref a ∧ H1 a = some (.ins C dx fs) ∧ Cls K C ∧ Con K C f v u ∧ fs.lookup f = none ∧ Q v H1
/-- e.f = value -/
def sFld (K : PySem.W.Frag) (ta tv : TE) (f : Str) : TS := fun D σ H => tv σ H fun y H1 => ta σ H1 fun x H2 => ∃ a C dx fs, x = .ref a ∧ H2 a = some (.ins C dx fs) ∧ Cls K C ∧ NoAttr K C f ∧ fs.length < 1000 ∧
  D.nx σ (upd H2 a (.ins C dx (putF f y fs)))
/-- an augmented operator on two values -/
def InOp (X : Cx) (op : Operator) (rd : V → V → Hp → VK → Prop) : Prop :=
  ∀ (pins : List (Addr × Obj)) (s : Shared) (σ : St) (H : Hp) (x y : V) (u v : Value) (Q : VK), Inv X pins σ H s → RelV x u → RelV y v → rd x y H Q → wpAny (model X.prog X.w) X.A (inplaceOp op u v) (EP X pins σ Q) X.xe s
/-- e.f op= value -/
def sFldAug (K : PySem.W.Frag) (ta tv : TE) (rd : V → V → Hp → VK → Prop) (f : Str) : TS := fun D σ H => ta σ H fun x H1 => ∃ a C dx fs v, x = .ref a ∧ H1 a = some (.ins C dx fs) ∧ Cls K C ∧ NoAttr K C f ∧ fs.lookup f = some v ∧
  tv σ H1 fun y H2 => rd v y H2 fun z H3 => ∃ dx' fs', H3 a = some (.ins C dx' fs') ∧ fs'.length < 1000 ∧ D.nx σ (upd H3 a (.ins C dx' (putF f z fs')))

section
variable {X : Cx} {o e value : Expr} {f : Str} {pos pos' tpos : Pos} {ta tv : TE}
def rAdd : V → V → Hp → VK → Prop := fun x y H Q => ∃ i j, x = .int i ∧ y = .int j ∧ Q (.int (i + j)) H
def rSub : V → V → Hp → VK → Prop := fun x y H Q => ∃ i j, x = .int i ∧ y = .int j ∧ Q (.int (i - j)) H
end

/-! ### isinstance -/
section
variable {X : Cx} {pins : List (Addr × Obj)} {σ : St} {H : Hp} {s : Shared} {A : Around} {E : Value → Shared → Prop} {Q : Value → Shared → Prop} {c : Value} {b : Bool}
/-- the type of a value, as the fragment's deciders take it; for an instance its class -/
inductive TyOf (K : PySem.W.Frag) (H : Hp) : V → Value → Prop where
  | non : TyOf K H .non (.type "NoneType")
  | bl (x : Bool) : TyOf K H (.bl x) (.type "bool")
  | int (i : Int) : TyOf K H (.int i) (.type "int")
  | str (x : Str) : TyOf K H (.str x) (.type "str")
  | flt (x : UInt64) : TyOf K H (.flt x) (.type "float")
  | lst {a : Addr} {xs : List V} (e : H a = some (.lst xs)) : TyOf K H (.ref a) (.type "list")
  | frz {a : Addr} {o : Obj} {xs : List V} (e : H a = some (.frz o (.lst xs))) : TyOf K H (.ref a) (.type "list")
  | tup {a : Addr} {xs : List V} (e : H a = some (.tup xs)) : TyOf K H (.ref a) (.type "tuple")
  | dK {a : Addr} {kvs : List (Key × V)} (e : H a = some (.dK kvs)) : TyOf K H (.ref a) (.type "dict")
  | dT {a : Addr} {kvs : List (List Key × V)} (e : H a = some (.dT kvs)) : TyOf K H (.ref a) (.type "dict")
  | ins {a C dx : Addr} {fs : List (Str × V)} (e : H a = some (.ins C dx fs)) (cl : Cls K C) (ha : PySem.W.findIn K (.ref C) "__class__" = some (some (.builtin "object.__class__")))
      (hn : PySem.W.specialIn K (.builtin "object.__class__") "__get__" = some (some (.builtin "getset_descriptor.__get__"))) (htk : PySem.W.takesIn K (.builtin "object.__class__") = some true)
      (hm : PySem.W.mroIn K C (.type "object") = some true) : TyOf K H (.ref a) (.ref C)
/-- isinstance(x, c) for one class c, a built-in or an own one: kitOne's answer -/
theorem isinst_ok {x : V} {u t : Value} (I : Inv X pins σ H s) (rx : RelV x u) (ty : TyOf X.K H x t) (e : PySem.W.kitOne X.K t c = some b) (h : ∀ tk, Q (.bool b) { s with toks := tk }) :
    wpAny (model X.prog X.w) A (call (.builtin "isinstance") [u, c]) Q E s := by
  cases ty with
  | non => cases (show u = Value.none from rx); exact PySem.W.kia_one PySem.W.kitx_none I.kIn True.intro e (fun z => nomatch z) h
  | bl y => cases (show u = Value.bool y from rx); exact PySem.W.kia_one PySem.W.kitx_bool I.kIn True.intro e (fun z => nomatch z) h
  | int i => obtain ⟨t, q⟩ := (show ∃ t, u = Value.int i t from rx); cases q; exact PySem.W.kia_one PySem.W.kitx_int I.kIn True.intro e (fun z => nomatch z) h
  | str y => obtain ⟨t, q⟩ := (show ∃ t, u = Value.str y t from rx); cases q; exact PySem.W.kia_one PySem.W.kitx_str I.kIn True.intro e (fun z => nomatch z) h
  | flt y => obtain ⟨t, q⟩ := (show ∃ t, u = Value.float y t from rx); cases q; exact PySem.W.kia_one PySem.W.kitx_float I.kIn True.intro e (fun z => nomatch z) h
  | @lst a xs ea =>
    cases (show u = Value.ref a from rx)
    obtain ⟨_, _, n, _, h1⟩ := (show ObjOk X.prog X.w H s.heap a (.lst xs) from I.hok a _ ea)
    exact PySem.W.kia_one PySem.W.kitx_list I.kIn ⟨_, h1, rfl⟩ e (fun z => nomatch z) h
  | @frz a ob xs ea =>
    cases (show u = Value.ref a from rx)
    obtain ⟨_, _, _, n, _, h1⟩ := (show ObjOk X.prog X.w H s.heap a (.frz ob (.lst xs)) from I.hok a _ ea)
    exact PySem.W.kia_one PySem.W.kitx_list I.kIn ⟨_, h1, rfl⟩ e (fun z => nomatch z) h
  | @tup a xs ea =>
    cases (show u = Value.ref a from rx)
    obtain ⟨_, _, _, p⟩ := (show ObjOk X.prog X.w H s.heap a (.tup xs) from I.hok a _ ea)
    obtain ⟨o, h1, h2, _⟩ := p
    exact PySem.W.kia_one PySem.W.kitx_tuple I.kIn ⟨o, h1, h2⟩ e (fun z => nomatch z) h
  | @dK a kvs ea =>
    cases (show u = Value.ref a from rx)
    obtain ⟨_, _, vs, _, p⟩ := (show ObjOk X.prog X.w H s.heap a (.dK kvs) from I.hok a _ ea)
    obtain ⟨o, es, ep, h1, h2, _⟩ := p
    exact PySem.W.kia_one PySem.W.kitx_dict I.kIn ⟨o, h1, h2.1⟩ e (fun z => nomatch z) h
  | @dT a kvs ea =>
    cases (show u = Value.ref a from rx)
    obtain ⟨_, _, xs, _, o, es, ep, h1, h2, _⟩ := (show ObjOk X.prog X.w H s.heap a (.dT kvs) from I.hok a _ ea)
    exact PySem.W.kia_one PySem.W.kitx_dict I.kIn ⟨o, h1, h2.1⟩ e (fun z => nomatch z) h
  | @ins a C dx fs ea cl ha hn htk hm =>
    cases (show u = Value.ref a from rx)
    obtain ⟨mA, O, _⟩ := ins_get I.hok ea
    obtain ⟨od, J, _⟩ := O.look
    exact PySem.W.kia_one (PySem.W.kitx_own (cl.get _) cl.hd ha hn htk hm) I.kIn J e (fun z => nomatch z) h
end
end L2

namespace L2
open PySem PySem.Spec PyProof.Rows

/-! ### room -/
structure Room (k : Nat) (A : Around) : Prop where
  hd : A.handled = none
  dp : A.depth + 3 * k + 5 < recursionLimit
  un : A.units + 16 * k + 200 < cLine
theorem Room.mono {j k : Nat} {A : Around} (r : Room k A) (h : j ≤ k) : Room j A := ⟨r.hd, by have := r.dp; omega, by have := r.un; omega⟩
theorem Room.deeper {k : Nat} {A : Around} (r : Room (k + 1) A) (env : Env) : Room k (A.deeper env) :=
  ⟨r.hd, by have := r.dp; show A.depth + 1 + 3 * k + 5 < _; omega, by have := r.un; show A.units + 3 + 16 * k + 200 < _; omega⟩
theorem Room.depth {k : Nat} {A : Around} (r : Room k A) : A.depth < recursionLimit := by have := r.dp; omega
theorem Room.units0 {k : Nat} {A : Around} (r : Room k A) : A.units < cLine := by have := r.un; omega

/-! ### argument lists and displays -/
def tNil : TA := fun _ H Q => Q [] H
def tCons (ta : TE) (tr : TA) : TA := fun σ H Q => ta σ H fun x H1 => tr σ H1 fun xs H2 => Q (x :: xs) H2
section
variable {X : Cx} {e : Expr} {es : List Expr} {te : TE} {t : TA} {pos : Pos}
theorem pa_nil : PA X [] tNil := fun _ _ _ _ H Q I h => Calls.spliced_nil ⟨[], H, I, .nil, h⟩
theorem pa_cons (ha : PE X e te) (hr : PA X es t) (hs : starEach (e :: es) X.env = (false, eval e X.env) :: starEach es X.env := by rfl) : PA X (e :: es) (tCons te t) := by
  intro pos pins s σ H Q I h
  rw [hs]
  show wpAny _ _ (spliced ((false, eval e X.env) :: backTo pos (starEach es X.env))) _ _ s
  refine Calls.spliced_cons (thn (ha pins s σ H _ I h) fun u s1 ⟨x, H1, I1, r1, q1⟩ => ?_)
  exact thn (hr pos pins s1 σ H1 _ I1 q1) fun us s2 ⟨xs, H2, I2, r2, q2⟩ => ⟨x :: xs, H2, I2, .cons r1 r2, q2⟩

/-- a tuple, a list of written items -/
def tTup (t : TA) : TE := fun σ H Q => t σ H fun xs H1 => xs.length ≤ sizeLine ∧ ∀ p, H1 p = none → Q (.ref p) (upd H1 p (.tup xs))
def tLst (t : TA) : TE := fun σ H Q => t σ H fun xs H1 => xs.length ≤ sizeLine ∧ ∀ p, H1 p = none → Q (.ref p) (upd H1 p (.lst xs))
theorem pe_tup {x1} (h : PA X es t) : PE X (.Tuple es x1 pos) (tTup t) := by
  intro pins s σ H Q I hq
  refine wpAny_Tuple_spliced (thn (h pos pins s σ H _ I hq) fun us s1 ⟨xs, H1, I1, r, z, q⟩ => ⟨by rw [← r.length]; exact z, ?_⟩)
  have hf : H1 s1.heap.objs.size = none := I1.hok.fresh (Nat.le_refl _)
  refine ⟨.ref s1.heap.objs.size, upd H1 s1.heap.objs.size (.tup xs), I1.laid (t' := s1.toks) (fun b u e => Heap.get?_push_of_some _ e) (Nat.le_refl _) ?_, rfl, q _ hf⟩
  exact ⟨z, us, r, ⟨_, Heap.get?_push_size _ rfl, rfl, _, rfl⟩⟩
theorem pe_lst (h : PA X es t) : PE X (.List es pos) (tLst t) := by
  intro pins s σ H Q I hq
  refine wpAny_List_spliced (thn (h pos pins s σ H _ I hq) fun us s1 ⟨xs, H1, I1, r, z, q⟩ => ⟨by rw [← r.length]; exact z, ?_⟩)
  have hf : H1 s1.heap.objs.size = none := I1.hok.fresh (Nat.le_refl _)
  refine ⟨.ref s1.heap.objs.size, upd H1 s1.heap.objs.size (.lst xs), I1.laid (t' := s1.toks) (fun b u e => Heap.get?_push_of_some _ e) (Nat.le_refl _) ?_, rfl, q _ hf⟩
  exact ⟨z, us, 0, r, Heap.get?_push_size _ rfl⟩
end

/-! ### what a def promises -/
/-- a def's promise: the bound arguments in the parameters' order, the heap, the wanted end, the wanted exception -/
abbrev Sp := List V → Hp → VK → XK → Prop
/-- how an exception lies behind a call (file 08 gives it): the callers' frames, abstract heap and state ahead of the call, the wish, the exception, the state -/
abbrev CXT := List Env → Hp → Shared → XK → Value → Shared → Prop

/-- the state at a call -/
structure Env0 (P : Program) (w : World) (K : PySem.W.Frag) (mg : Str → Option Value) (base : Heap) (A : Around) (outer : List Env) (s : Shared) (H : Hp) : Prop where
  frames : A.frames = some outer
  mod : Mod K mg base
  bs : ∀ b o, base.get? b = some o → s.heap.get? b = some o ∧ H b = none
  bsz : base.objs.size ≤ s.heap.objs.size
  funs : s.heap.FunFrames base outer
  frf : ∀ b ∈ frs outer, H b = none
  hok : HOk P w H s.heap
  bare : AllBare s.gens
/-- a call's end -/
def CE (outer : List Env) (P : Program) (w : World) (H : Hp) (s : Shared) (Q : VK) (u : Value) (s' : Shared) : Prop :=
  ∃ v H', s'.os = s.os ∧ AllBare s'.gens ∧ Un (frs outer) [] H H' s.heap s'.heap ∧ HOk P w H' s'.heap ∧ RelV v u ∧ Q v H'
def CR (CX : CXT) (outer : List Env) (P : Program) (w : World) (H : Hp) (s : Shared) (Q : VK) (E : XK) (r : Result) (s' : Shared) : Prop :=
  match r with
  | .ok (.ret u) => CE outer P w H s Q u s'
  | .ok _ => False
  | .error e => CX outer H s E e s'
structure FnOk (P : Program) (w : World) (K : PySem.W.Frag) (mg : Str → Option Value) (base : Heap) (CX : CXT) (k : Nat) (f : Addr) (fd : FuncData) (ps : List Str) (sp : Sp) : Prop where
  len : ∀ vs H Q E, sp vs H Q E → vs.length = ps.length
  run : ∀ (A : Around) (outer : List Env) (s : Shared) (H : Hp) (args : Args) (us : List Value) (vs : List V) (Q : VK) (E : XK), Room k A → Env0 P w K mg base A outer s H → BindsTo s fd args (ps.zip us) → Vals vs us → sp vs H Q E →
    codeAny (model P w) A (.call (.ref f) args) (CR CX outer P w H s Q E) s
theorem FnOk.mono {P : Program} {w : World} {K : PySem.W.Frag} {mg : Str → Option Value} {base : Heap} {CX : CXT} {j k : Nat} {f : Addr} {fd : FuncData} {ps : List Str} {sp : Sp} (F : FnOk P w K mg base CX j f fd ps sp) (h : j ≤ k) :
    FnOk P w K mg base CX k f fd ps sp := ⟨F.len, fun A outer s H args us vs Q E hr => F.run A outer s H args us vs Q E (hr.mono h)⟩
section
variable {X : Cx} {pins : List (Addr × Obj)} {σ : St} {H : Hp} {s s' : Shared}
/-- from a body: what a callee wants -/
theorem Inv.env0 (I : Inv X pins σ H s) : Env0 X.prog X.w X.K X.mg X.base X.A X.stack s H :=
  ⟨I.ok.frames, I.ok.mod, I.bs, Nat.le_trans I.ok.bsz I.sz, I.stack, I.stkFree, I.hok, I.bare⟩
/-- behind a call -/
theorem Inv.after {Q : VK} {u : Value} (I : Inv X pins σ H s) (h : CE X.stack X.prog X.w H s Q u s') : EP X pins σ Q u s' := by
  obtain ⟨v, H', os, bare, un, hok, r, q⟩ := h
  obtain ⟨hh, g, d, t, os'⟩ := s'
  obtain rfl : os' = s.os := os
  exact ⟨v, H', I.call (h' := hh) (g' := g) (d' := d) (t' := t) (ch := []) un hok bare (fun b z => absurd z (by simp)), r, q⟩
end

/-! ### calls -/
/-- f(..): the written arguments, then the defaults dvs; E: what is wanted of an exception -/
def tCall (sp : Sp) (dvs : List V) (E : XK) (t : TA) : TE := fun σ H Q => t σ H fun vs H1 => sp (vs ++ dvs) H1 Q E
/-- o.m(..) of an instance of the class at C -/
def tMeth (C : Addr) (m : Str) (sp : Sp) (dvs : List V) (E : XK) (ta : TE) (t : TA) : TE := fun σ H Q => ta σ H fun x H1 => ∃ a dx fs, x = .ref a ∧ H1 a = some (.ins C dx fs) ∧ fs.lookup m = none ∧
  t σ H1 fun vs H2 => sp (x :: (vs ++ dvs)) H2 Q E
/-- C(..): a new instance and its dict, then __init__ -/
def tMake (C : Addr) (sp : Sp) (dvs : List V) (E : XK) (t : TA) : TE := fun σ H Q => t σ H fun vs H1 => ∀ x dx, H1 x = none → H1 dx = none → dx ≠ x →
  sp (.ref x :: (vs ++ dvs)) (upd (upd H1 dx (.own x)) x (.ins C dx [])) (fun v H2 => v = .non ∧ Q (.ref x) H2) E

/-- how the parameters are bound: us the positional arguments, kw the keywords' values by name, ds the defaults that fill up -/
def Binds (K : PySem.W.Frag) (fd : FuncData) (ps : List Str) (ds : List Value) : Prop :=
  ∀ (s : Shared) (us : List Value), K.In s.heap → (us ++ ds).length = ps.length → BindsTo s fd ⟨us, []⟩ (ps.zip (us ++ ds))
/-- every parameter is given -/
theorem Binds.all {K : PySem.W.Frag} {fd : FuncData} {ps : List Str} (h : ∀ us : List Value, us.length = ps.length → bindArgs fd ⟨us, []⟩ = pure (ps.zip us)) : Binds K fd ps [] := fun s us _ hl => by
  rw [List.append_nil] at hl ⊢
  exact .of_eq (h us hl)

/-- an exception of a callee reaches what this body wants of exceptions -/
def Passes (CX : CXT) (X : Cx) (E : XK) : Prop := ∀ (pins : List (Addr × Obj)) (σ : St) (H : Hp) (s : Shared) (e : Value) (s' : Shared), Inv X pins σ H s → CX X.stack H s E e s' → X.xe e s'

section
variable {X : Cx} {CX : CXT} {k : Nat} {f C : Addr} {fd : FuncData} {ps : List Str} {sp : Sp} {dvs : List V} {ds : List Value} {E : XK} {x m : Str} {p pos apos : Pos} {e o : Expr} {es : List Expr} {ta : TE} {t : TA}

/-- the callee runs -/
theorem run_fn {pins : List (Addr × Obj)} {σ : St} {H : Hp} {s : Shared} {Q : VK} {us : List Value} {vs : List V} (F : FnOk X.prog X.w X.K X.mg X.base CX k f fd ps sp) (hr : Room k X.A) (hb : Binds X.K fd ps ds) (hd : Vals dvs ds) (hx : Passes CX X E)
    (I : Inv X pins σ H s) (r : Vals vs us) (h : sp (vs ++ dvs) H Q E) : wpAny (model X.prog X.w) X.A (call (.ref f) us) (EP X pins σ Q) X.xe s := by
  have r2 : Vals (vs ++ dvs) (us ++ ds) := r.append hd
  have hl : (us ++ ds).length = ps.length := by rw [← r2.length]; exact F.len _ _ _ _ h
  refine wpAny_call (codeAny_mono (F.run X.A X.stack s H ⟨us, []⟩ (us ++ ds) (vs ++ dvs) Q E hr I.env0 (hb s us I.kIn hl) r2 h) fun r s' hq => ?_)
  cases r with
  | error e => exact hx pins σ H s e s' I hq
  | ok fl =>
    cases fl with
    | ret u => exact I.after hq
    | next => exact False.elim hq
    | brk => exact False.elim hq
    | cont => exact False.elim hq

theorem pe_call (F : FnOk X.prog X.w X.K X.mg X.base CX k f fd ps sp) (hr : Room k X.A) (hg : Gl X x) (hm : X.mg x = some (.ref f)) (hk : PySem.W.keepIn X.K (.ref f) = true) (hb : Binds X.K fd ps ds) (hd : Vals dvs ds) (hx : Passes CX X E)
    (ha : PA X (e :: es) t) (hdb : (x == ("__debug__" : Str)) = false := by decide) (he : starEach (e :: es) X.env = (false, eval e X.env) :: starEach es X.env := by rfl) (hpl : (backTo pos (starEach es X.env)).any (·.1) = false := by rfl) :
    PE X (.Call (.Name x p) (e :: es) [] pos) (tCall sp dvs E t) := by
  intro pins s σ H Q I h
  refine wpAny_Call_Name_kw (ld_glob I hg hm ?_ hdb)
  refine PySem.W.callWith_K (h₀ := X.base) I.ok.mod.kin hk (thn (ha pos pins s σ H _ I h) fun us s1 ⟨vs, H1, I1, r, q⟩ => ⟨I1.kIn, ?_⟩) he hpl
  exact run_fn F hr hb hd hx I1 r q
/-- what a class must have to be made -/
structure Mk (K : PySem.W.Frag) (C f : Addr) : Prop where
  makes : PySem.W.makesIn K C = true
  init : PySem.W.findIn K (.ref C) "__init__" = some (some (.ref f))
  fn : PySem.W.isFn K (.ref f) = true
  kp : PySem.W.keepIn K (.ref C) = true

end

/-! ### keywords -/
/-- the values of the keywords, from the left -/
def PK (X : Cx) (kws : List Keyword) (t : TA) : Prop :=
  ∀ (pos : Pos) (pins : List (Addr × Obj)) (s : Shared) (σ : St) (H : Hp) (Q : List V → Hp → Prop), Inv X pins σ H s → t σ H Q → wpAny (model X.prog X.w) X.A (evalAll ((backToKw pos (keywordEach kws X.env)).map (·.2))) (AP X pins σ Q) X.xe s
section
variable {X : Cx} {CX : CXT} {k : Nat} {f C : Addr} {fd : FuncData} {ps ks : List Str} {sp : Sp} {E : XK} {x m : Str} {p pos apos kpos : Pos} {e o : Expr} {es : List Expr} {kws : List Keyword} {te ta : TE} {t tk : TA} {nm : Option Str}
/-- how a call with keywords binds: g puts the positional values us and the keywords' values ws (names ks) in the parameters' order, defaults among them -/
structure KBinds (K : PySem.W.Frag) (fd : FuncData) (ps ks : List Str) (g : List Value → List Value → List Value) (gV : List V → List V → List V) : Prop where
  to : ∀ (s : Shared) (us ws : List Value), K.In s.heap → (g us ws).length = ps.length → BindsTo s fd ⟨us, ks.zip ws⟩ (ps.zip (g us ws))
  rel : ∀ {vs : List V} {us : List Value} {zs : List V} {ws : List Value}, Vals vs us → Vals zs ws → Vals (gV vs zs) (g us ws)
def tCallK (sp : Sp) (gV : List V → List V → List V) (E : XK) (t tk : TA) : TE := fun σ H Q => t σ H fun vs H1 => tk σ H1 fun zs H2 => sp (gV vs zs) H2 Q E
variable {g : List Value → List Value → List Value} {gV : List V → List V → List V}
end

/-! ### a def's body keeps its promise -/
/-- names: the parameters first -/
structure FnScope (N P : List Str) (sc : Scope) : Prop where
  kind : sc.kind = .function
  co : sc.isCoroutine = false
  gen : sc.isGenerator = false
  nd : N.Nodup
  pre : N.take P.length = P
  par : ∀ x ∈ P, sc.names.lookup x = some .local ∨ sc.names.lookup x = some .cell
  nofree : ∀ y ∈ sc.names, y.2 ≠ .free

theorem bindL_out {kindOf : Str → Option NameKind} {x : Str} : ∀ {binds : List (Str × Value)} {m : Str → Option Value}, (∀ v, (x, v) ∉ binds) → bindL kindOf binds m x = m x
  | [], _, _ => rfl
  | (n, v) :: r, m, h => by
    unfold bindL
    rw [bindL_out fun w hw => h w (List.mem_cons_of_mem _ hw)]
    split
    · have : x ≠ n := by rintro rfl; exact h v List.mem_cons_self
      simp [this]
    · rfl
theorem bindC_out {kindOf : Str → Option NameKind} {x : Str} : ∀ {binds : List (Str × Value)} {m : Str → Option Value}, (∀ v, (x, v) ∉ binds) → bindC kindOf binds m x = m x
  | [], _, _ => rfl
  | (n, v) :: r, m, h => by
    unfold bindC
    rw [bindC_out fun w hw => h w (List.mem_cons_of_mem _ hw)]
    split
    · rfl
    · have : x ≠ n := by rintro rfl; exact h v List.mem_cons_self
      simp [this]
theorem bindL_get {kindOf : Str → Option NameKind} {x : Str} {v : Value} : ∀ {P : List Str} {vs : List Value} {i : Nat} {m : Str → Option Value}, P.Nodup → P[i]? = some x → vs[i]? = some v → kindOf x = some .local →
    bindL kindOf (P.zip vs) m x = some v
  | [], _, _, _, _, h, _, _ => by simp at h
  | _ :: _, [], _, _, _, _, h, _ => by simp at h
  | p :: P, w :: vs, 0, m, nd, h1, h2, hk => by
    simp at h1 h2; subst h1; subst h2
    show bindL kindOf ((p, w) :: P.zip vs) m p = _
    unfold bindL
    rw [bindL_out fun v hv => (List.nodup_cons.mp nd).1 (List.of_mem_zip hv).1, if_pos hk]
    simp
  | p :: P, w :: vs, i + 1, m, nd, h1, h2, hk => by
    show bindL kindOf ((p, w) :: P.zip vs) m x = _
    unfold bindL
    exact bindL_get (i := i) (List.nodup_cons.mp nd).2 (by simpa using h1) (by simpa using h2) hk
theorem bindC_get {kindOf : Str → Option NameKind} {x : Str} {v : Value} : ∀ {P : List Str} {vs : List Value} {i : Nat} {m : Str → Option Value}, P.Nodup → P[i]? = some x → vs[i]? = some v → kindOf x ≠ some .local →
    bindC kindOf (P.zip vs) m x = some v
  | [], _, _, _, _, h, _, _ => by simp at h
  | _ :: _, [], _, _, _, _, h, _ => by simp at h
  | p :: P, w :: vs, 0, m, nd, h1, h2, hk => by
    simp at h1 h2; subst h1; subst h2
    show bindC kindOf ((p, w) :: P.zip vs) m p = _
    unfold bindC
    rw [bindC_out fun v hv => (List.nodup_cons.mp nd).1 (List.of_mem_zip hv).1, if_neg hk]
    simp
  | p :: P, w :: vs, i + 1, m, nd, h1, h2, hk => by
    show bindC kindOf ((p, w) :: P.zip vs) m x = _
    unfold bindC
    exact bindC_get (i := i) (List.nodup_cons.mp nd).2 (by simpa using h1) (by simpa using h2) hk

/-- the names' values at the entry -/
def start (N : List Str) (vs : List V) : St := vs.map some ++ List.replicate (N.length - vs.length) none

/-- the context of a def's body, at its entry; an exception leaves the frame, then lies as CX says -/
def cxOf (CX : CXT) (P : Program) (w : World) (K : PySem.W.Frag) (mg : Str → Option Value) (base : Heap) (N : List Str) (qual : Str) (scope : Scope) (f : Addr) (cd : Value) (A : Around) (outer : List Env) (s : Shared) (H : Hp) (E : XK) : Cx where
  prog := P
  w := w
  K := K
  mg := mg
  base := base
  A := A.deeper (envOfC qual scope s.heap.objs.size f cd)
  N := N
  s₀ := s
  H₀ := H
  env := envOfC qual scope s.heap.objs.size f cd
  outer := outer
  stack := envOfC qual scope s.heap.objs.size f cd :: outer
  ex := []
  calm := true
  fn := fun _ => true
  pn := []
  xe := fun e s' => wpAny (model P w) (A.deeper (envOfC qual scope s.heap.objs.size f cd)) (leaving (envOfC qual scope s.heap.objs.size f cd) e) (fun _ s'' => CX outer H s E e s'') (fun e' s'' => CX outer H s E e' s'') s'

theorem cell_has {sc : Scope} {n : Nat} {x : Str} (h : sc.names.lookup x = some .cell) : ∃ c, (cellsFrom n sc.names []).lookup x = some c := by
  have q := PySem.W.cellsFrom_some sc.names n [] (.inl h)
  exact Option.isSome_iff_exists.mp q

theorem inv_start {CX : CXT} {P : Program} {w : World} {K : PySem.W.Frag} {mg : Str → Option Value} {base : Heap} {N ps : List Str} {qual : Str} {scope : Scope} {f : Addr} {cd : Value} {A : Around} {outer : List Env} {s s1 : Shared} {H : Hp} {E : XK} {us : List Value} {vs : List V}
    (S : FnScope N ps scope) (hd : A.handled = none) (e0 : Env0 P w K mg base A outer s H) (hl : vs.length = ps.length) (r : Vals vs us)
    (x : InCallC s s.heap.objs.size (bindL (envOfC qual scope s.heap.objs.size f cd).kindOf (ps.zip us) fun _ => none) (cellsFrom (s.heap.objs.size + 1) scope.names []) (bindC (envOfC qual scope s.heap.objs.size f cd).kindOf (ps.zip us) fun _ => none) s1) :
    Inv (cxOf CX P w K mg base N qual scope f cd A outer s H E) [] (start N vs) H s1 := by
  have hpl : ps.length ≤ N.length := by have := congrArg List.length S.pre; rw [List.length_take] at this; omega
  obtain ⟨h1, tk, rfl, hk⟩ := x.done
  have noA : ∀ b : Addr, b ∉ (cxOf CX P w K mg base N qual scope f cd A outer s H E).ex := fun b z => absurd (show b ∈ ([] : List Addr) from z) (by simp)
  refine ⟨⟨e0.mod, S.kind, rfl, rfl, Nat.le_refl _, fun y z c h1 h2 => ?_, fun y hy => ?_, fun y c _ h => ?_, fun _ => hd, Around.frames_deeper e0.frames, .inr ⟨rfl, rfl⟩, fun b z => absurd z (noA b), e0.bs, e0.bsz, fun b _ _ => noA b, fun b z => absurd z (noA b), e0.funs, e0.frf⟩,
    rfl, e0.bare, Un.kept hk, ⟨_, x.toInCall.ns, fun i y v h1 h2 h3 => ?_⟩, fun y c h => ⟨_, x.cell y c h⟩, e0.hok.fresh (Nat.le_refl _), fun y c h => ?_, fun p hp => absurd (show p ∈ ([] : List (Addr × Obj)) from hp) (by simp), e0.hok.kept hk, ?_⟩
  · exact name_of_addr x.apart (PySem.mem_of_lookup h1) (PySem.mem_of_lookup h2)
  · have hy : scope.names.lookup y = some .cell ∨ scope.names.lookup y = some .free := hy
    rcases hy with hy | hy
    · exact cell_has hy
    · exact absurd rfl (S.nofree _ (PySem.mem_of_lookup hy))
  · exact Nat.le_of_lt (x.above y c (PySem.mem_of_lookup h))
  · have hi : i < vs.length := by
      unfold start at h2
      by_cases hi : i < vs.length
      · exact hi
      · rw [List.getElem?_append_right (by simpa using hi)] at h2
        rw [List.getElem?_replicate] at h2
        split at h2 <;> cases h2
    have ha : vs[i]? = some v := by
      unfold start at h2
      rw [List.getElem?_append_left (by simpa using hi), List.getElem?_map] at h2
      cases e : vs[i]? with
      | none => rw [e] at h2; cases h2
      | some a => rw [e] at h2; cases h2; rfl
    obtain ⟨u, hu, rv⟩ := r.get ha
    have hp : ps[i]? = some y := by
      rw [← S.pre, List.getElem?_take_of_lt (by omega)]; exact h1
    have ndP : ps.Nodup := by rw [← S.pre]; exact S.nd.sublist (List.take_sublist _ _)
    refine ⟨u, rv, ?_⟩
    rcases S.par y (List.mem_of_getElem? hp) with k | k
    · exact .inl ⟨k, bindL_get ndP hp hu k⟩
    · obtain ⟨c, e⟩ := cell_has (n := s.heap.objs.size + 1) k
      refine .inr ⟨.inl k, c, e, ?_⟩
      have q := x.cell y c e
      rw [bindC_get ndP hp hu (by show scope.names.lookup y ≠ _; rw [k]; decide)] at q
      exact q
  · exact e0.hok.fresh (Nat.le_of_lt (x.above y c (PySem.mem_of_lookup h)))
  · unfold start
    show _ = N.length
    rw [List.length_append, List.length_map, List.length_replicate]
    omega

/-- THE RULE: a def (or a method) of the text, by its body. The body's reading t is chosen for each entry; it is run at the parameters' values -/
theorem fn_of {CX : CXT} {P : Program} {w : World} {K : PySem.W.Frag} {mg : Str → Option Value} {base : Heap} {k : Nat} {f : Addr} {name qual : Str} {params : Arguments} {body : List Stmt} {scope : Scope} {dV kV doc pm cdv ct oc : Value} {an od : Option Addr}
    {osl : Array (Option Value)} {N ps : List Str} {sp : Sp} (lk : K.lookup f = some ⟨oc, od, .func (PySem.W.fnOf name qual params body scope dV kV doc pm an cdv ct), osl⟩) (hcd : PySem.W.codeIn K cdv qual = true) (S : FnScope N ps scope)
    (len : ∀ vs H Q E, sp vs H Q E → vs.length = ps.length)
    (hbody : ∀ (A : Around) (outer : List Env) (s : Shared) (H : Hp) (vs : List V) (Q : VK) (E : XK), Room k (A.deeper (envOfC qual scope s.heap.objs.size f cdv)) → sp vs H Q E →
      ∃ t, PSs (cxOf CX P w K mg base N qual scope f cdv A outer s H E) body t ∧ t { nx := fun _ H' => Q .non H', rt := Q } (start N vs) H) :
    FnOk P w K mg base CX (k + 1) f (PySem.W.fnOf name qual params body scope dV kV doc pm an cdv ct) ps sp := by
  refine ⟨len, fun A outer s H args us vs Q E hr e0 hb r hsp => ?_⟩
  have hl := len _ _ _ _ hsp
  have KX : K.In s.heap := e0.mod.kin.keeps fun b o e => (e0.bs b o e).1
  have lim : s.heap.NoLimit := e0.mod.nolimit.keeps fun b o e => (e0.bs b o e).1
  have hkind : ∀ y ∈ ps.zip us, scope.names.lookup y.1 = some .local ∨ (scope.names.lookup y.1 = some .cell ∧ ((cellsFrom (s.heap.objs.size + 1) scope.names []).lookup y.1).isSome = true) := fun ⟨n, v⟩ hy => by
    rcases S.par n (List.of_mem_zip hy).1 with q | q
    · exact .inl q
    · exact .inr ⟨q, PySem.W.cellsFrom_some _ _ _ (.inl q)⟩
  refine codeAny_call_function hr.depth (KX _ _ lk) rfl S.co S.gen rfl (PySem.W.codeRec_of KX hcd) (hb _ _ _ _ ?_)
  refine wpAny_newFunctionEnv_cells S.kind hkind fun env he s1 x => ?_
  subst he
  refine ⟨lim.keeps x.toInCall.keep, codeAny_func ?_⟩
  obtain ⟨t, ht, hq⟩ := hbody A outer s H vs Q E (hr.deeper _) hsp
  have I : Inv (cxOf CX P w K mg base N qual scope f cdv A outer s H E) [] (start N vs) H s1 := inv_start S hr.hd e0 hl r x
  refine wpAny_mono (ht [] s1 (start N vs) H _ I hq) (fun fl s' hs => ?_) fun e s' hs => hs
  have fin : ∀ {σ' : St} {H' : Hp} {v : V} {u : Value}, Inv (cxOf CX P w K mg base N qual scope f cdv A outer s H E) [] σ' H' s' → RelV v u → Q v H' → CE outer P w H s Q u s' :=
    fun {σ' H' v u} J rv q => ⟨v, H', J.os, J.bare, J.base, J.hok, rv, q⟩
  cases fl with
  | ret u =>
    obtain ⟨v, σ', H', J, rv, q⟩ := hs
    exact fin J rv q
  | next =>
    obtain ⟨σ', H', J, q⟩ := hs
    exact fin (v := V.non) (u := Value.none) J rfl q
  | brk =>
    obtain ⟨_, _, _, q⟩ := hs
    exact False.elim q
  | cont =>
    obtain ⟨_, _, _, q⟩ := hs
    exact False.elim q
end L2

namespace L2
open PySem PySem.Spec PyProof.Rows
section
variable {X : Cx} {x : Str} {p pos : Pos} {e : Expr} {es : List Expr} {t : TA} {id T : String} {r : List V → Hp → VK → Prop}

def tCB (r : List V → Hp → VK → Prop) (t : TA) : TE := fun σ H Q => t σ H fun vs H1 => r vs H1 Q
/-- f(e, ..), f a built-in function -/
theorem pe_callB (hc : CallR X (.builtin id) r) (hg : Gl X x) (hm : X.mg x = none) (hv : bootBuiltins x = some (.builtin id)) (ha : PA X (e :: es) t) (hn : x ≠ "__name__" := by decide) (hdb : (x == ("__debug__" : Str)) = false := by decide)
    (he : starEach (e :: es) X.env = (false, eval e X.env) :: starEach es X.env := by rfl) (hpl : (backTo pos (starEach es X.env)).any (·.1) = false := by rfl) : PE X (.Call (.Name x p) (e :: es) [] pos) (tCB r t) := by
  intro pins s σ H Q I h
  refine wpAny_Call_Name_kw (ld_blt I hg hm hv ?_ hn hdb)
  exact PyProof.Rows.callWith_builtin1 (thn (ha pos pins s σ H _ I h) fun us s1 ⟨vs, H1, I1, r1, q1⟩ => hc pins s1 σ H1 vs us Q I1 r1 q1) he hpl
/-- T(e, ..), T a built-in type -/
theorem pe_callTy (hc : CallR X (.type T) r) (hg : Gl X x) (hm : X.mg x = none) (hv : bootBuiltins x = some (.type T)) (ha : PA X (e :: es) t) (hn : x ≠ "__name__" := by decide) (hdb : (x == ("__debug__" : Str)) = false := by decide)
    (he : starEach (e :: es) X.env = (false, eval e X.env) :: starEach es X.env := by rfl) (hpl : (backTo pos (starEach es X.env)).any (·.1) = false := by rfl) : PE X (.Call (.Name x p) (e :: es) [] pos) (tCB r t) := by
  intro pins s σ H Q I h
  refine wpAny_Call_Name_kw (ld_blt I hg hm hv ?_ hn hdb)
  exact PyProof.Rows.callWith_type1 (thn (ha pos pins s σ H _ I h) fun us s1 ⟨vs, H1, I1, r1, q1⟩ => hc pins s1 σ H1 vs us Q I1 r1 q1) he hpl
end
end L2

namespace HT
open PySem PyProof.Rows

/-- t < u of tuples of ints -/
def lexLt : List Int → List Int → Bool
  | [], [] => false
  | [], _ :: _ => true
  | _ :: _, [] => false
  | x :: xs, y :: ys => if x = y then lexLt xs ys else decide (x < y)
section
open PySem.SeqAt
open PySem.AutoSeq1 (wpAny_loadPart')
open PySem.MeetsSeq PySem.MeetsSeq2 PySem.MeetsSeq3

end

section
variable {prog : Program} {w : World} {A : Around} {E : Value → Shared → Prop} {s : Shared}

/-! ### t[a:b], not the whole -/
/-- a slice's bound as a place among n (d where it is left out) -/
def sIx (n d : Nat) : Option Int → Nat
  | none => d
  | some v => if v < 0 then (v + (n : Int)).toNat else min v.toNat n
theorem sIx_none (n d : Nat) : sIx n d none = d := rfl
theorem sIx_nat (n d k : Nat) : sIx n d (some (k : Int)) = min k n := by
  show (if (k : Int) < 0 then ((k : Int) + (n : Int)).toNat else min (k : Int).toNat n) = min k n
  rw [if_neg (by omega), Int.toNat_natCast]
theorem sIx_le (n d : Nat) (hd : d ≤ n) (o : Option Int) : sIx n d o ≤ n := by
  cases o with
  | none => exact hd
  | some v =>
    show (if v < 0 then (v + (n : Int)).toNat else min v.toNat n) ≤ n
    by_cases hv : v < 0
    · rw [if_pos hv]; omega
    · rw [if_neg hv]; exact Nat.min_le_right _ _
theorem clip_eq (v : Int) (n d : Nat) : (if v < 0 then max (v + (n : Int)) 0 else min v (n : Int)) = ((sIx n d (some v) : Nat) : Int) := by
  show (if v < 0 then max (v + (n : Int)) 0 else min v (n : Int)) = (((if v < 0 then (v + (n : Int)).toNat else min v.toNat n) : Nat) : Int)
  by_cases hv : v < 0
  · simp only [if_pos hv]; omega
  · simp only [if_neg hv]; omega
theorem adjust_gen (lo hi : Option Int) (n : Nat) : Builtin.Slice.sliceAdjust lo hi 1 (n : Int) = (((sIx n 0 lo : Nat) : Int), ((sIx n n hi : Nat) : Int)) := by
  have h1 : ¬ ((1 : Int) < 0) := by omega
  unfold Builtin.Slice.sliceAdjust
  simp only [h1, if_false]
  refine Prod.ext ?_ ?_
  · cases lo with
    | none => rfl
    | some v => exact clip_eq v n 0
  · cases hi with
    | none => rfl
    | some v => exact clip_eq v n n
theorem places_gen (i j : Nat) : Builtin.Slice.slicePlaces (i : Int) (j : Int) 1 = j - i := by
  unfold Builtin.Slice.slicePlaces
  have h1 : (1 : Int) > 0 := by omega
  simp only [h1, if_true, Int.ediv_one]
  split <;> omega
theorem slicePart_ {v : Value} {o : Option Int} {Q : Option Int → Shared → Prop} (p : IsPart v o) (h : Q o s) : wpAny (model prog w) A (Builtin.Slice.slicePartIndex v) Q E s := by
  cases p with
  | none => exact slicePart_none h
  | int i t => exact slicePart_int h
theorem sliceApplied_gen {sl : Addr} {vl vu : Value} {lo hi : Option Int} {n : Nat} {Q : Int × Int × Nat → Shared → Prop} (hs : s.heap.IsSliceOf sl vl vu .none) (pl : IsPart vl lo) (pu : IsPart vu hi)
    (h : Q (((sIx n 0 lo : Nat) : Int), 1, sIx n n hi - sIx n 0 lo) s) : wpAny (model prog w) A (Builtin.Slice.sliceApplied (.ref sl) (pure (n : Int))) Q E s := by
  obtain ⟨os, hos, hcs, hds⟩ := id hs
  unfold Builtin.Slice.sliceApplied Builtin.Slice.sliceFields
  refine wpAny_bind (wpAny_bind (wpAny_field hos hds (x := vl) rfl (wpAny_bind (wpAny_field hos hds (x := vu) rfl (wpAny_bind (wpAny_field hos hds (x := .none) rfl (wpAny_pure ?_)))))))
  refine wpAny_bind (slicePart_none ?_)
  show wpAny _ _ (if ((1 : Int) == 0) = true then _ else _) _ _ s
  rw [if_neg (by decide)]
  refine wpAny_bind (slicePart_ pl (wpAny_bind (slicePart_ pu (wpAny_bind (wpAny_pure ?_)))))
  show wpAny _ _ (match Builtin.Slice.sliceAdjust lo hi 1 (n : Int) with | (lo, hi) => pure (lo, (1 : Int), Builtin.Slice.slicePlaces lo hi 1)) _ _ s
  rw [adjust_gen lo hi n]
  show wpAny _ _ (pure (((sIx n 0 lo : Nat) : Int), (1 : Int), Builtin.Slice.slicePlaces ((sIx n 0 lo : Nat) : Int) ((sIx n n hi : Nat) : Int) 1)) _ _ s
  rw [places_gen]
  exact wpAny_pure h
theorem pick_gen (xs : Array Value) (i k : Nat) : ((List.range k).filterMap fun (m : Nat) => xs[((i : Int) + (m : Int) * 1).toNat]?).toArray = ((xs.toList.drop i).take k).toArray := by
  have e : (fun (m : Nat) => xs[((i : Int) + (m : Int) * 1).toNat]?) = fun m => xs[i + m]? := by
    funext m
    have : ((i : Int) + (m : Int) * 1).toNat = i + m := by omega
    rw [this]
  rw [e]
  have := pick_run xs i k
  rw [List.filterMap_map] at this
  have e2 : ((fun x => xs[x]?) ∘ fun x => i + x) = fun m => xs[i + m]? := rfl
  rw [e2] at this
  rw [this]

theorem getItem_tuple_cut {t sl : Addr} {items : Array Value} {vl vu : Value} {lo hi : Option Int} {Q : Value → Shared → Prop} (ht : IsTup s.heap t items) (hs : s.heap.IsSliceOf sl vl vu .none) (pl : IsPart vl lo) (pu : IsPart vu hi)
    (hw : ¬ (sIx items.size 0 lo = 0 ∧ sIx items.size items.size hi = items.size))
    (h : Q (.ref s.heap.objs.size) { s with heap := s.heap.push { cls := .type "tuple", data := .seq ((items.toList.drop (sIx items.size 0 lo)).take (sIx items.size items.size hi - sIx items.size 0 lo)).toArray } })
    (hsz : items.size ≤ sizeLine) : wpAny (model prog w) A (getItem (.ref t) (.ref sl)) Q E s := by
  have htake : sizeOk (.seq ((items.toList.drop (sIx items.size 0 lo)).take (sIx items.size items.size hi - sIx items.size 0 lo)).toArray) := by
    show ((items.toList.drop (sIx items.size 0 lo)).take (sIx items.size items.size hi - sIx items.size 0 lo)).toArray.size ≤ sizeLine
    rw [List.size_toArray, List.length_take, List.length_drop, Array.length_toList]
    omega
  have hj : sIx items.size items.size hi ≤ items.size := sIx_le _ _ (Nat.le_refl _) hi
  obtain ⟨os, hos, hcs, hds⟩ := id hs
  have hTs : s.TypeIs (.ref sl) "slice" := ⟨os, hos, hcs⟩
  unfold getItem
  try with_reducible refine wpAny_holding ?_
  first | refine wpAny_bind (wpAny_pure ?_) | skip
  refine wpAny_bind (wpAny_sequenceKey ht.typeIs (by decide) ?_)
  refine wpAny_bind (wpAny_callSpecial?_slot (name := Str.ofString "__getitem__") ht.typeIs PyProof.Rows.slot_tuple_getitem
    (wpAny_call_entry PyProof.Rows.slot_tuple_getitem ht.typeIs entry_tuple_getitem ?_ (args_tuple_getitem _ _)))
  show wpAny _ _ (Builtin.Tuple.tupleItemsOf (.ref t) >>= _) _ _ s
  refine wpAny_bind (tupleItemsOf_ ht ?_)
  refine wpAny_bind (wpAny_typeOf hTs ?_)
  rw [if_pos (by decide)]
  refine wpAny_bind (sliceApplied_gen hs pl pu ?_)
  have hno : ¬ ((((sIx items.size 0 lo : Nat) : Int) == 0 && (1 : Int) == 1 && (sIx items.size items.size hi - sIx items.size 0 lo) == items.size) = true) := by
    intro q
    rw [Bool.and_eq_true, Bool.and_eq_true] at q
    have q1 : ((sIx items.size 0 lo : Nat) : Int) = 0 := eq_of_beq q.1.1
    have q2 : sIx items.size items.size hi - sIx items.size 0 lo = items.size := eq_of_beq q.2
    exact hw ⟨by omega, by omega⟩
  show wpAny _ _ (if (((sIx items.size 0 lo : Nat) : Int) == 0 && (1 : Int) == 1 && (sIx items.size items.size hi - sIx items.size 0 lo) == items.size) = true then _ else _) _ _ s
  rw [if_neg hno, pick_gen]
  first
    | exact wpAny_bind (m := Builtin.Tuple.tupleExact _) (wpAny_newObj_type (wpAny_pure ⟨_, rfl, wpAny_pure h⟩) htake)
    | exact wpAny_bind (m := Builtin.Tuple.tupleExact _) (wpAny_newObj_type (wpAny_bind (wpAny_pure (wpAny_pure ⟨_, rfl, wpAny_pure h⟩))) htake)
    | exact wpAny_bind (wpAny_bind (m := Builtin.Tuple.tupleExact _) (wpAny_newObj_type (wpAny_pure (wpAny_pure ⟨_, rfl, wpAny_pure h⟩)) htake))
    | exact wpAny_bind (wpAny_bind (m := Builtin.Tuple.tupleExact _) (wpAny_newObj_type (wpAny_pure ⟨_, rfl, wpAny_pure h⟩) htake))
end
end HT

namespace L2
open PySem PySem.Spec PyProof.Rows

/-! ### the parts of a slice -/
abbrev TO := St → Hp → (Option Int → Hp → Prop) → Prop
/-- a slice's part (left out, or an int) -/
def PO (X : Cx) (e : Option Expr) (t : TO) : Prop :=
  ∀ (pins : List (Addr × Obj)) (s : Shared) (σ : St) (H : Hp) (Q : Option Int → Hp → Prop), Inv X pins σ H s → t σ H Q →
    wpAny (model X.prog X.w) X.A (evalPart e X.env) (fun u s' => ∃ o H', Inv X pins σ H' s' ∧ IsPart u o ∧ Q o H') X.xe s
def tNoPart : TO := fun _ H Q => Q none H
def tPart (t : TE) : TO := fun σ H Q => t σ H fun x H1 => ∃ i, x = .int i ∧ Q (some i) H1

section
variable {X : Cx} {e : Expr} {te : TE} {lo hi : Option Expr} {tl th : TO} {pos p2 : Pos}

theorem po_none : PO X none tNoPart := by
  intro pins s σ H Q I h
  rw [evalPart_none]
  exact wpAny_pure ⟨none, H, I, .none, h⟩
theorem po_some (h : PE X e te) : PO X (some e) (tPart te) := by
  intro pins s σ H Q I hw
  rw [evalPart_some]
  refine thn (h pins s σ H _ I hw) fun u s1 ⟨x, H1, I1, r1, q1⟩ => ?_
  obtain ⟨i, rfl, q⟩ := q1
  obtain ⟨t, rfl⟩ := r1
  exact ⟨some i, H1, I1, .int i t, q⟩

/-- what a slice of a value is, by values: the slice object stands at sl -/
def SlR (X : Cx) (r : V → Option Int → Option Int → Hp → VK → Prop) : Prop :=
  ∀ (pins : List (Addr × Obj)) (s : Shared) (σ : St) (H : Hp) (x : V) (v vl vu : Value) (lo hi : Option Int) (sl : Addr) (Q : VK), Inv X pins σ H s → RelV x v → s.heap.IsSliceOf sl vl vu .none → IsPart vl lo → IsPart vu hi → r x lo hi H Q →
    ∃ T id, typeLookup (.type T) "__getitem__" = pure (some (.builtin id)) ∧ s.TypeIs v T ∧ wpAny (model X.prog X.w) X.A (getItem v (.ref sl)) (EP X pins σ Q) X.xe s
def tSl (r : V → Option Int → Option Int → Hp → VK → Prop) (te : TE) (tl th : TO) : TE := fun σ H Q => te σ H fun x H1 => tl σ H1 fun l H2 => th σ H2 fun u H3 => r x l u H3 Q
/-- a[lo:hi], any a -/
theorem pe_slice {r : V → Option Int → Option Int → Hp → VK → Prop} (hr : SlR X r) (he : PE X e te) (hl : PO X lo tl) (hu : PO X hi th) : PE X (.Subscript e (.Slice lo hi none p2) pos) (tSl r te tl th) := by
  intro pins s σ H Q I h
  refine Subscript_ (thn (he pins s σ H _ I h) fun v s1 ⟨x, H1, I1, r1, q1⟩ => ?_)
  refine wpAny_Slice (thn (hl pins s1 σ H1 _ I1 q1) fun vl s2 ⟨l, H2, I2, pl, q2⟩ => thn (hu pins s2 σ H2 _ I2 q2) fun vu s3 ⟨u, H3, I3, pu, q3⟩ => ?_)
  rw [evalPart_none]
  refine wpAny_pure ?_
  have I4 : Inv X pins σ H3 { s3 with heap := s3.heap.push { cls := .type "slice", data := .fields #[vl, vu, .none] } } := I3.kept (t' := s3.toks) fun b ob q => Heap.get?_push_of_some _ q
  obtain ⟨T, id, hT, ht, hg⟩ := hr pins { s3 with heap := s3.heap.push { cls := .type "slice", data := .fields #[vl, vu, .none] } } σ H3 x v vl vu l u s3.heap.objs.size Q I4 r1 (Heap.IsSliceOf.new ..) pl pu q3
  show wpAny (model X.prog X.w) X.A (subscriptTail e (.Slice lo hi none p2) v (.ref s3.heap.objs.size)) (EP X pins σ Q) X.xe { s3 with heap := s3.heap.push { cls := .type "slice", data := .fields #[vl, vu, .none] } }
  exact tail_any (ops := [.ref s3.heap.objs.size, v]) ht hT hg (by with_unfolding_all rfl)

/-- the items of xs[lo:hi] -/
def cutV (xs : List V) (lo hi : Option Int) : List V := (xs.drop (HT.sIx xs.length 0 lo)).take (HT.sIx xs.length xs.length hi - HT.sIx xs.length 0 lo)
theorem cutV_length (xs : List V) (lo hi : Option Int) : (cutV xs lo hi).length ≤ xs.length := by
  unfold cutV
  rw [List.length_take, List.length_drop]
  omega
/-- t[lo:hi], not the whole of it (the whole would be t itself) -/
def rSlT (K : PySem.W.Frag) : V → Option Int → Option Int → Hp → VK → Prop := fun x lo hi H Q => ∃ a xs, x = .ref a ∧ SqT K H a xs ∧
  ¬ (HT.sIx xs.length 0 lo = 0 ∧ HT.sIx xs.length xs.length hi = xs.length) ∧ ∀ p, H p = none → Q (.ref p) (upd H p (.tup (cutV xs lo hi)))
theorem sl_tup : SlR X (rSlT X.K) := by
  intro pins s σ H x v vl vu lo hi sl Q I rx hs pl pu h
  obtain ⟨a, xs, rfl, hx, hw, q⟩ := h
  cases rx
  obtain ⟨its, r, ht, hz⟩ := I.tuple hx
  have hlen : its.toArray.size = xs.length := by rw [List.size_toArray]; exact r.length.symm
  refine ⟨"tuple", _, PyProof.Rows.slot_tuple_getitem.lookup, ht.typeIs, ?_⟩
  refine HT.getItem_tuple_cut ht hs pl pu (by rw [hlen]; exact hw) ?_ (by rw [hlen]; exact hz)
  rw [hlen]
  refine ⟨.ref s.heap.objs.size, _, I.laid (t' := s.toks) (o := .tup (cutV xs lo hi)) (fun b ob q => Heap.get?_push_of_some _ q) (Nat.le_refl _) ?_, rfl, q _ (I.hok.fresh (Nat.le_refl _))⟩
  exact ⟨Nat.le_trans (cutV_length xs lo hi) hz, _, (r.drop (HT.sIx xs.length 0 lo)).take (HT.sIx xs.length xs.length hi - HT.sIx xs.length 0 lo), IsTup.new _ _⟩

/-! ### t < u, t + u -/
def rLtT (K : PySem.W.Frag) : R2 := fun x y H Q => ∃ a b ns ms, x = .ref a ∧ y = .ref b ∧ SqT K H a (ns.map V.int) ∧ SqT K H b (ms.map V.int) ∧ Q (.bl (HT.lexLt ns ms)) H
/-- t + u, t not empty: u empty gives t itself -/
def rCatT (K : PySem.W.Frag) : R2 := fun x y H Q => ∃ a b xs ys, x = .ref a ∧ y = .ref b ∧ SqT K H a xs ∧ SqT K H b ys ∧ xs ≠ [] ∧ xs.length + ys.length ≤ sizeLine ∧
  (ys = [] → Q (.ref a) H) ∧ (ys ≠ [] → ∀ p, H p = none → Q (.ref p) (upd H p (.tup (xs ++ ys))))
end
end L2

namespace L2
open PySem PySem.Spec PyProof.Rows

/-! ### places -/
/-- the place that an index of any sign means -/
def ixN (n : Nat) (i : Int) : Option Nat := if 0 ≤ i then (if i < n then some i.toNat else none) else if -(n : Int) ≤ i then some (i + n).toNat else none
def atI {α : Type} (xs : List α) (i : Int) : Option α := (ixN xs.length i).bind fun j => xs[j]?
theorem ixN_seq {n : Nat} {i : Int} {j : Nat} (h : ixN n i = some j) : seqIndex? i n = some j ∧ j < n ∧ -(n : Int) ≤ i ∧ i < n := by
  unfold ixN at h
  by_cases h0 : 0 ≤ i
  · rw [if_pos h0] at h
    by_cases h1 : i < n
    · rw [if_pos h1] at h
      have e : i.toNat = j := Option.some.inj h
      exact ⟨by rw [seqIndex_of h0 h1, e], by omega, by omega, h1⟩
    · rw [if_neg h1] at h; cases h
  · rw [if_neg h0] at h
    by_cases h1 : -(n : Int) ≤ i
    · rw [if_pos h1] at h
      have e : (i + n).toNat = j := Option.some.inj h
      exact ⟨by rw [seqIndex_neg (by omega) h1, e], by omega, h1, by omega⟩
    · rw [if_neg h1] at h; cases h
theorem atI_get {α : Type} {xs : List α} {i : Int} {v : α} (h : atI xs i = some v) : ∃ j, seqIndex? i xs.length = some j ∧ xs[j]? = some v ∧ j < xs.length ∧ -(xs.length : Int) ≤ i ∧ i < xs.length := by
  unfold atI at h
  cases e : ixN xs.length i with
  | none => rw [e] at h; cases h
  | some j =>
    rw [e] at h
    obtain ⟨h1, h2, h3, h4⟩ := ixN_seq e
    exact ⟨j, h1, h, h2, h3, h4⟩
theorem atI_nat {α : Type} {xs : List α} {j : Nat} {v : α} (h : xs[j]? = some v) : atI xs (j : Int) = some v := by
  have hj : j < xs.length := (List.getElem?_eq_some_iff.mp h).1
  have e : ixN xs.length (j : Int) = some j := by
    unfold ixN
    rw [if_pos (by omega), if_pos (by omega)]; simp
  unfold atI; rw [e]; exact h
/-! ### what may be subscripted -/
/-- what stands as an index of a plain subscript -/
def PlainIx (b : Expr) : Prop := ∀ o i, subscripted b false o i = operate [o, i] (getItem o i)
/-- a subscript by values -/
def IxR (X : Cx) (r : R2) : Prop :=
  ∀ (value slice : Expr) (pins : List (Addr × Obj)) (s : Shared) (σ : St) (H : Hp) (x y : V) (v u : Value) (Q : VK), Inv X pins σ H s → RelV x v → RelV y u → r x y H Q →
    subscripted slice false v u = operate [v, u] (getItem v u) → wpAny (model X.prog X.w) X.A (subscriptTail value slice v u) (EP X pins σ Q) X.xe s
/-- a call of a builtin's method by values: the receiver, the arguments -/
def MtR (X : Cx) (id : String) (r : V → List V → Hp → VK → Prop) : Prop :=
  ∀ (pins : List (Addr × Obj)) (s : Shared) (σ : St) (H : Hp) (x : V) (xs : List V) (v : Value) (us : List Value) (Q : VK), Inv X pins σ H s → RelV x v → Vals xs us → r x xs H Q →
    wpAny (model X.prog X.w) X.A (call (.builtin id) (v :: us)) (EP X pins σ Q) X.xe s
section
variable {X : Cx} {a b : Expr} {ta tb : TE} {pos : Pos}
/-- a[b] -/
theorem pe_ix {r : R2} (hr : IxR X r) (ha : PE X a ta) (hb : PE X b tb) (hs : PlainIx b) : PE X (.Subscript a b pos) (tOp r ta tb) := by
  intro pins s σ H Q I h
  exact Subscript_ (binT ha hb I h fun v u s2 x y H2 I2 rx ry q => hr a b pins s2 σ H2 x y v u Q I2 rx ry q (hs _ _))

def rIxL (K : PySem.W.Frag) : R2 := fun x y H Q => ∃ p xs i v, x = .ref p ∧ y = .int i ∧ SqL K H p xs ∧ atI xs i = some v ∧ Q v H
def rIxT (K : PySem.W.Frag) : R2 := fun x y H Q => ∃ p xs i v, x = .ref p ∧ y = .int i ∧ SqT K H p xs ∧ atI xs i = some v ∧ Q v H
def rIxS : R2 := fun x y H Q => ∃ z i c, x = .str z ∧ y = .int i ∧ z.length ≤ sizeLine ∧ atI z.cps.toList i = some c ∧ Q (.str ⟨#[c]⟩) H
theorem ix_list : IxR X (rIxL X.K) := by
  intro value slice pins s σ H x y v u Q I rx ry h hs
  obtain ⟨p, xs, i, z, rfl, rfl, hq, he, q⟩ := h
  cases rx
  obtain ⟨t, rfl⟩ := ry
  obtain ⟨its, r, pl, hz⟩ := I.list hq
  obtain ⟨j, h1, h2, h3, h4, h5⟩ := atI_get he
  obtain ⟨w, ew, rw'⟩ := r.get h2
  have hl := r.length
  have hn := line63
  have fin : EP X pins σ Q w s := ⟨z, H, I, rw', q⟩
  by_cases h0 : 0 ≤ i
  · have hj : i.toNat = j := by
      rw [seqIndex_of h0 h5] at h1
      exact Option.some.inj h1
    exact item_listR pl.isList h0 (by omega) (by rw [hj]; simpa using ew) fin hs
  · have hj : (i + (its.toArray.size : Int)).toNat = j := by
      rw [seqIndex_neg (by omega) h4] at h1
      rw [List.size_toArray, ← hl]
      exact Option.some.inj h1
    exact subscriptTail_builtinR (x := w) pl.isList.typeIs slot_list_getitem.lookup
      (wpAny_getItem_list_neg (Q := fun r s' => r = w ∧ EP X pins σ Q r s') pl.isList (by omega) (by rw [List.size_toArray] <;> omega) (by omega) (by rw [hj]; simpa using ew) ⟨rfl, fin⟩) hs
theorem ix_tup : IxR X (rIxT X.K) := by
  intro value slice pins s σ H x y v u Q I rx ry h hs
  obtain ⟨p, xs, i, z, rfl, rfl, hq, he, q⟩ := h
  cases rx
  obtain ⟨t, rfl⟩ := ry
  obtain ⟨its, r, pl, hz⟩ := I.tuple hq
  obtain ⟨j, h1, h2, h3, h4, h5⟩ := atI_get he
  obtain ⟨w, ew, rw'⟩ := r.get h2
  have hl := r.length
  have hn := line63
  have fin : EP X pins σ Q w s := ⟨z, H, I, rw', q⟩
  exact subscriptTail_builtinR (x := w) pl.typeIs slot_tuple_getitem.lookup
    (getItem_tuple (j := j) (Q := fun r s' => r = w ∧ EP X pins σ Q r s') pl (by omega) (by omega) (by rw [List.size_toArray, ← hl]; exact h1) (by simpa using ew) ⟨rfl, fin⟩) hs
/-- list, tuple or str -/
def rIx (K : PySem.W.Frag) : R2 := fun x y H Q => rIxL K x y H Q ∨ rIxT K x y H Q ∨ rIxS x y H Q
/-! ### xs[i] = v, any sign -/
/-- the list's object behind a store -/
theorem mapSeq_set (its : List Value) (n j : Nat) (u : Value) : Obj.mapSeq (·.setIfInBounds j u) { cls := .type "list", data := .seq its.toArray n } = { cls := .type "list", data := .seq (its.set j u).toArray n } := by
  simp [Obj.mapSeq]
theorem Inv.lst {pins : List (Addr × Obj)} {σ : St} {H : Hp} {s : Shared} {p : Addr} {xs : List V} (I : Inv X pins σ H s) (h : H p = some (.lst xs)) :
    ∃ (its : List Value) (n : Nat), Vals xs its ∧ s.heap.get? p = some { cls := .type "list", data := .seq its.toArray n } ∧ xs.length ≤ sizeLine := by
  obtain ⟨z, its, n, r, e⟩ := I.hok p _ h
  exact ⟨its, n, r, e, z⟩
/-- the list at p is written by an update of its object -/
theorem Inv.lstUpd {pins : List (Addr × Obj)} {σ : St} {H : Hp} {s : Shared} {p : Addr} {xs ys : List V} {its its' : List Value} {n n' : Nat} {f : Obj → Obj} (I : Inv X pins σ H s) (h : H p = some (.lst xs))
    (ho : s.heap.get? p = some { cls := .type "list", data := .seq its.toArray n }) (hf : f { cls := .type "list", data := .seq its.toArray n } = { cls := .type "list", data := .seq its'.toArray n' }) (r : Vals ys its') (hz : ys.length ≤ sizeLine) (t : Nat) :
    Inv X pins σ (upd H p (.lst ys)) { s with heap := s.heap.update p f, toks := t } := by
  have e : (s.heap.update p f).get? p = some { cls := .type "list", data := .seq its'.toArray n' } := by
    rw [Heap.get?_update_self f ho (by rw [hf] <;> rfl), hf]
  refine I.write (x := p) (e := p) (by rw [h]; trivial) (.inl rfl) (fun b u hb q => (Heap.get?_update_other _ _ (Ne.symm hb)).trans q) ⟨_, e⟩ ?_
  exact ⟨hz, its', n', r, e⟩
def rSetL : V → V → V → Hp → (Hp → Prop) → Prop := fun o i v H Q => ∃ p xs k j, o = .ref p ∧ i = .int k ∧ H p = some (.lst xs) ∧ ixN xs.length k = some j ∧ Q (upd H p (.lst (xs.set j v)))
theorem set_list : PSet X rSetL := by
  intro pins s σ H o i v ov iv u Q I ro ri rv h
  obtain ⟨p, xs, k, j, rfl, rfl, hp, hj, q⟩ := h
  cases ro
  obtain ⟨t, rfl⟩ := ri
  obtain ⟨its, n, r, ho, hz⟩ := I.lst hp
  obtain ⟨h1, h2, h3, h4⟩ := ixN_seq hj
  have hl := r.length
  have hn := line63
  have I' : Inv X pins σ (upd H p (.lst (xs.set j v))) { s with heap := s.heap.update p (Obj.mapSeq (·.setIfInBounds j u)) } :=
    I.lstUpd hp ho (mapSeq_set its n j u) (r.set rv j) (by rw [List.length_set]; exact hz) s.toks
  by_cases h0 : 0 ≤ k
  · have hk : k.toNat = j := by
      rw [seqIndex_of h0 h4] at h1
      exact Option.some.inj h1
    exact PySem.W.ki_setAt ho h0 (by omega) (by rw [List.size_toArray, ← hl]; exact h4) (by rw [hk]; exact ⟨_, I', q⟩)
  · have hk : (k + (its.toArray.size : Int)).toNat = j := by
      rw [seqIndex_neg (by omega) h3] at h1
      rw [List.size_toArray, ← hl]
      exact Option.some.inj h1
    exact PySem.W.ki_setBack ho (by omega) (by rw [List.size_toArray, ← hl]; exact h3) (by omega) (by rw [hk]; exact ⟨_, I', q⟩)

/-! ### slices -/
theorem slice_bounds (lo hi : Option Int) (n : Nat) : (sliceBounds lo hi none n).1 = ((HT.sIx n 0 lo : Nat) : Int) ∧ (sliceBounds lo hi none n).2.1 = ((HT.sIx n n hi : Nat) : Int) ∧ (sliceBounds lo hi none n).2.2 = 1 := by
  refine ⟨?_, ?_, rfl⟩
  · cases lo with
    | none => simp [sliceBounds, HT.sIx]
    | some i =>
      simp only [sliceBounds, HT.sIx, Option.getD_none, show (1 : Int) > 0 by decide, if_true]
      by_cases h : i < 0
      · simp only [h, if_true] <;> omega
      · simp only [h, if_false] <;> omega
  · cases hi with
    | none => simp [sliceBounds, HT.sIx]
    | some i =>
      simp only [sliceBounds, HT.sIx, Option.getD_none, show (1 : Int) > 0 by decide, if_true]
      by_cases h : i < 0
      · simp only [h, if_true] <;> omega
      · simp only [h, if_false] <;> omega
theorem slicePick_cut (its : List Value) (lo hi : Option Int) : slicePick its.toArray lo hi none = ((its.drop (HT.sIx its.length 0 lo)).take (HT.sIx its.length its.length hi - HT.sIx its.length 0 lo)).toArray := by
  obtain ⟨h1, h2, h3⟩ := slice_bounds lo hi its.toArray.size
  unfold slicePick
  rw [h1, h2, h3]
  simp only [sliceRange_one, pick_run, List.size_toArray] <;> rfl
/-- xs[lo:hi] of a list: a new list -/
def rSlL (K : PySem.W.Frag) : V → Option Int → Option Int → Hp → VK → Prop := fun x lo hi H Q => ∃ a xs, x = .ref a ∧ SqL K H a xs ∧ ∀ p, H p = none → Q (.ref p) (upd H p (.lst (cutV xs lo hi)))
theorem sl_list : SlR X (rSlL X.K) := by
  intro pins s σ H x v vl vu lo hi sl Q I rx hs pl pu h
  obtain ⟨a, xs, rfl, hx, q⟩ := h
  cases rx
  obtain ⟨its, r, ht, hz⟩ := I.list hx
  have hlen := r.length
  refine ⟨"list", _, slot_list_getitem.lookup, ht.isList.typeIs, ?_⟩
  refine wpAny_getItem_list_slice ht.isList hs pl pu .none (by simp) ?_ (by rw [List.size_toArray] <;> omega)
  rw [slicePick_cut, ← hlen]
  refine ⟨.ref s.heap.objs.size, _, I.laid (t' := s.toks) (o := .lst (cutV xs lo hi)) (fun b ob q => Heap.get?_push_of_some _ q) (Nat.le_refl _) ?_, rfl, q _ (I.hok.fresh (Nat.le_refl _))⟩
  exact ⟨Nat.le_trans (cutV_length xs lo hi) hz, _, 0, (r.drop (HT.sIx xs.length 0 lo)).take (HT.sIx xs.length xs.length hi - HT.sIx xs.length 0 lo), Heap.get?_push_size _ rfl⟩

/-! ### in, not in: flat items -/
def flatV : V → Bool
  | .non => true
  | .bl _ => true
  | .int _ => true
  | .str _ => true
  | _ => false
/-- == of flat values -/
def eqV : V → V → Bool
  | .non, .non => true
  | .bl a, .bl b => a == b
  | .bl a, .int b => (if a then 1 else 0) == b
  | .int a, .bl b => a == (if b then 1 else 0)
  | .int a, .int b => a == b
  | .str a, .str b => a == b
  | _, _ => false
theorem eqAt_V {A : Around} {s : Shared} {y x : V} {u v : Value} (ry : RelV y u) (rx : RelV x v) (fy : flatV y = true) (fx : flatV x = true) : SeqAt.EqAt A s u v (eqV y x) := by
  cases y with
  | non =>
    cases ry
    cases x with
    | non => cases rx; exact SeqAt.EqAt.same _
    | bl b => cases rx; exact SeqAt.EqAt.none_bool b
    | int b => obtain ⟨t, rfl⟩ := rx; exact SeqAt.EqAt.none_int b t
    | str b => obtain ⟨t, rfl⟩ := rx; exact SeqAt.EqAt.none_str b t
    | _ => exact absurd (show false = true from fx) Bool.false_ne_true
  | bl a =>
    cases ry
    cases x with
    | non => cases rx; exact SeqAt.EqAt.bool_none a
    | bl b => cases rx; exact SeqAt.EqAt.bool_bool a b
    | int b => obtain ⟨t, rfl⟩ := rx; exact SeqAt.EqAt.bool_int a b t
    | str b => obtain ⟨t, rfl⟩ := rx; exact SeqAt.EqAt.bool_str a b t
    | _ => exact absurd (show false = true from fx) Bool.false_ne_true
  | int a =>
    obtain ⟨t', rfl⟩ := ry
    cases x with
    | non => cases rx; exact SeqAt.EqAt.int_none a t'
    | bl b => cases rx; exact SeqAt.EqAt.int_bool a t' b
    | int b => obtain ⟨t, rfl⟩ := rx; exact SeqAt.EqAt.int_int a t' b t
    | str b => obtain ⟨t, rfl⟩ := rx; exact SeqAt.EqAt.int_str a t' b t
    | _ => exact absurd (show false = true from fx) Bool.false_ne_true
  | str a =>
    obtain ⟨t', rfl⟩ := ry
    cases x with
    | non => cases rx; exact SeqAt.EqAt.str_none a t'
    | bl b => cases rx; exact SeqAt.EqAt.str_bool a t' b
    | int b => obtain ⟨t, rfl⟩ := rx; exact SeqAt.EqAt.str_int a t' b t
    | str b => obtain ⟨t, rfl⟩ := rx; exact SeqAt.EqAt.str_str a t' b t
    | _ => exact absurd (show false = true from fx) Bool.false_ne_true
  | _ => exact absurd (show false = true from fy) Bool.false_ne_true
/-- the items' answers, read off the values (a value's own answer does not lean on its token) -/
def eqU (x : V) (u : Value) : Bool := match u with
  | .none => eqV .non x
  | .bool b => eqV (.bl b) x
  | .int i _ => eqV (.int i) x
  | .str z _ => eqV (.str z) x
  | _ => false
theorem eqU_of {x y : V} {u : Value} (r : RelV y u) (f : flatV y = true) : eqU x u = eqV y x := by
  cases y with
  | non => cases r; rfl
  | bl b => cases r; rfl
  | int i => obtain ⟨t, rfl⟩ := r; rfl
  | str z => obtain ⟨t, rfl⟩ := r; rfl
  | _ => exact absurd (show false = true from f) Bool.false_ne_true
theorem any_eqU {x : V} : ∀ {xs : List V} {us : List Value}, Vals xs us → xs.all flatV = true → us.any (eqU x) = xs.any fun y => eqV y x
  | _, _, .nil, _ => rfl
  | y :: xs, u :: us, .cons r t, f => by
    rw [List.all_cons, Bool.and_eq_true] at f
    rw [List.any_cons, List.any_cons, eqU_of r f.1, any_eqU t f.2]
theorem mem_eqAt {A : Around} {s : Shared} {x : V} {v : Value} (rx : RelV x v) (fx : flatV x = true) : ∀ {xs : List V} {us : List Value}, Vals xs us → xs.all flatV = true → ∀ u ∈ us, SeqAt.EqAt A s u v (eqU x u)
  | _, _, .nil, _ => fun u hu => by cases hu
  | y :: xs, u :: us, .cons r t, f => fun u' hu => by
    rw [List.all_cons, Bool.and_eq_true] at f
    rcases List.mem_cons.mp hu with rfl | hu
    · rw [eqU_of r f.1]; exact eqAt_V r rx f.1 fx
    · exact mem_eqAt rx fx t f.2 u' hu
def inV (x : V) (xs : List V) : Bool := xs.any fun y => eqV y x
/-- x in a list or tuple of flat items -/
def rIn (K : PySem.W.Frag) (neg : Bool) : R2 := fun x y H Q => ∃ p xs, y = .ref p ∧ (SqL K H p xs ∨ SqT K H p xs) ∧ flatV x = true ∧ xs.all flatV = true ∧ Q (.bl (if neg then !inV x xs else inV x xs)) H
theorem op_in_seq : OpR X (compareOp .In) (rIn X.K false) := by
  intro pins s σ H x y v u Q I rx ry h
  obtain ⟨p, xs, rfl, hq, fx, fs, q⟩ := h
  cases ry
  rcases hq with hq | hq
  · obtain ⟨its, r, pl, hz⟩ := I.list hq
    refine SeqAt.in_listAt (eqU x) pl.isList (fun w hw => mem_eqAt rx fx r fs w (by simpa using hw)) ⟨.bl _, H, I, rfl, ?_⟩
    rw [show its.toArray.any (eqU x) = its.any (eqU x) by simp, any_eqU r fs]
    exact q
  · obtain ⟨its, r, pl, hz⟩ := I.tuple hq
    refine SeqAt.in_tupleAt (eqU x) pl (fun w hw => mem_eqAt rx fx r fs w (by simpa using hw)) ⟨.bl _, H, I, rfl, ?_⟩
    rw [show its.toArray.any (eqU x) = its.any (eqU x) by simp, any_eqU r fs]
    exact q
/-! ### len, list(x), tuple(x) of any list or tuple that is read -/
theorem call_len_seq : CallR X (.builtin "len") (fun xs H Q => ∃ p ys, xs = [.ref p] ∧ (SqL X.K H p ys ∨ SqT X.K H p ys) ∧ Q (.int ys.length) H) := by
  intro pins s σ H xs us Q I r h
  obtain ⟨p, ys, rfl, hq, q⟩ := h
  obtain ⟨u, rfl, rx⟩ := vals1 r
  cases rx
  have hn := line63
  rcases hq with hq | hq
  · obtain ⟨its, r', pl, hz⟩ := I.list hq
    have hlen := r'.length
    exact Calls.call_len_list pl.isList (by simp only [List.size_toArray] <;> omega) ⟨.int ys.length, H, I.tok _, ⟨s.toks + 1, by rw [List.size_toArray, hlen]⟩, q⟩
  · obtain ⟨its, r', pl, hz⟩ := I.tuple hq
    have hlen := r'.length
    exact len_tuple pl (by simp only [List.size_toArray] <;> omega) ⟨.int ys.length, H, I.tok _, ⟨s.toks + 1, by rw [List.size_toArray, hlen]⟩, q⟩
theorem call_len_str : CallR X (.builtin "len") (fun xs H Q => ∃ z, xs = [.str z] ∧ z.length ≤ sizeLine ∧ Q (.int z.length) H) := by
  intro pins s σ H xs us Q I r h
  obtain ⟨z, rfl, hz, q⟩ := h
  obtain ⟨u, rfl, t, rfl⟩ := vals1 r
  have hn := line63
  exact len_str (by omega) ⟨.int z.length, H, I.tok _, ⟨_, rfl⟩, q⟩
theorem call_list_of : CallR X (.type "list") (fun xs H Q => ∃ p ys, xs = [.ref p] ∧ (SqL X.K H p ys ∨ SqT X.K H p ys) ∧ ∀ l, H l = none → Q (.ref l) (upd H l (.lst ys))) := by
  intro pins s σ H xs us Q I r h
  obtain ⟨p, ys, rfl, hq, q⟩ := h
  obtain ⟨u, rfl, rx⟩ := vals1 r
  cases rx
  have fin : ∀ (its : List Value), Vals ys its → ys.length ≤ sizeLine → ∀ (h' : Heap) (c' : Nat), (∀ b o', s.heap.get? b = some o' → h'.get? b = some o') →
      h'.get? s.heap.objs.size = some { cls := .type "list", dict := none, data := .seq its.toArray c', slots := #[] } → EP X pins σ Q (.ref s.heap.objs.size) { s with heap := h' } := fun its r' hz h' c' kp e =>
    ⟨.ref s.heap.objs.size, _, I.laid (t' := s.toks) kp (Nat.le_refl _) (show ObjOk X.prog X.w _ h' _ (.lst ys) from ⟨hz, its, c', r', e⟩), rfl, q _ (I.hok.fresh (Nat.le_refl _))⟩
  rcases hq with hq | hq
  · obtain ⟨its, r', pl, hz⟩ := I.list hq
    have hlen := r'.length
    obtain ⟨o, ho, hc, n, hd⟩ := pl.isList
    exact call_list_seq p (.inl rfl) ho hc hd (fun h' c' kp e => fin its r' hz h' c' kp e) (by simp only [List.size_toArray] <;> omega)
  · obtain ⟨its, r', pl, hz⟩ := I.tuple hq
    have hlen := r'.length
    obtain ⟨o, ho, hc, n, hd⟩ := pl
    exact call_list_seq p (.inr rfl) ho hc hd (fun h' c' kp e => fin its r' hz h' c' kp e) (by simp only [List.size_toArray] <;> omega)
theorem call_tuple_of : CallR X (.type "tuple") (fun xs H Q => ∃ p ys, xs = [.ref p] ∧ ((SqL X.K H p ys ∧ ∀ l, H l = none → Q (.ref l) (upd H l (.tup ys))) ∨ (SqT X.K H p ys ∧ Q (.ref p) H))) := by
  intro pins s σ H xs us Q I r h
  obtain ⟨p, ys, rfl, h⟩ := h
  obtain ⟨u, rfl, rx⟩ := vals1 r
  cases rx
  rcases h with ⟨hq, q⟩ | ⟨hq, q⟩
  · obtain ⟨its, r', pl, hz⟩ := I.list hq
    have hlen := r'.length
    refine call_tuple_list pl.isList (fun h' kp => ?_) (by simp only [List.size_toArray] <;> omega)
    have I1 : Inv X pins σ H { s with heap := h' } := I.kept (t' := s.toks) kp
    have I2 : Inv X pins σ (upd H h'.objs.size (.tup ys)) { s with heap := h'.push { cls := .type "tuple", data := .seq its.toArray } } :=
      I1.laid (t' := s.toks) (fun b o e => Heap.get?_push_of_some _ e) (Nat.le_refl _) (show ObjOk X.prog X.w _ _ _ (.tup ys) from ⟨hz, its, r', IsTup.new _ _⟩)
    exact ⟨.ref h'.objs.size, _, I2, rfl, q _ (I1.hok.fresh (Nat.le_refl _))⟩
  · obtain ⟨its, r', pl, hz⟩ := I.tuple hq
    exact call_tuple_same pl ⟨.ref p, H, I, rfl, q⟩

/-! ### the call of a builtin's method: o.m(..) -/
/-- the value is of that builtin type -/
def tyV (K : PySem.W.Frag) (T : String) (x : V) (H : Hp) : Prop := match x with
  | .str _ => T = "str"
  | .int _ => T = "int"
  | .ref p => (T = "list" ∧ ∃ xs, SqL K H p xs) ∨ (T = "tuple" ∧ ∃ o, K.lookup p = some o ∧ o.cls = .type "tuple" ∧ o.dict = none) ∨
      (T = "dict" ∧ ((∃ kvs, H p = some (.dK kvs)) ∨ ∃ kvs, H p = some (.dT kvs))) ∨ (T = "set" ∧ ∃ S n, H p = some (.set S n))
  | _ => False
theorem tyV_is {pins : List (Addr × Obj)} {σ : St} {H : Hp} {s : Shared} {T : String} {x : V} {v : Value} (I : Inv X pins σ H s) (r : RelV x v) (ty : tyV X.K T x H) :
    s.TypeIs v T ∧ ∀ a, v = .ref a → ∃ ob, s.heap.get? a = some ob ∧ ob.dict = none := by
  cases x with
  | str z =>
    obtain ⟨t, rfl⟩ := r
    cases (show T = "str" from ty)
    exact ⟨typeIs_str s z t, fun _ e => nomatch e⟩
  | int i =>
    obtain ⟨t, rfl⟩ := r
    cases (show T = "int" from ty)
    exact ⟨typeIs_int s i t, fun _ e => nomatch e⟩
  | ref p =>
    cases r
    rcases ty with ⟨rfl, xs, hq⟩ | ⟨rfl, o, hk, hc, hd⟩ | ⟨rfl, hk⟩ | ⟨rfl, S, n, hk⟩
    · obtain ⟨its, _, pl, _⟩ := I.list hq
      refine ⟨pl.isList.typeIs, fun a e => ?_⟩
      cases e
      obtain ⟨o, n, e, c, hd, _⟩ := pl
      exact ⟨o, e, hd⟩
    · refine ⟨⟨o, I.kIn p o hk, hc⟩, fun a e => ?_⟩
      cases e
      exact ⟨o, I.kIn _ o hk, hd⟩
    · have z : ∃ o, s.heap.get? p = some o ∧ o.ExactDict := by
        rcases hk with ⟨kvs, hk⟩ | ⟨kvs, hk⟩
        · obtain ⟨_, _, _, _, o, _, _, e, ex, _⟩ := I.hok p _ hk
          exact ⟨o, e, ex⟩
        · obtain ⟨_, _, _, _, o, _, _, e, ex, _⟩ := I.hok p _ hk
          exact ⟨o, e, ex⟩
      obtain ⟨o, e, ex⟩ := z
      refine ⟨⟨o, e, ex.1⟩, fun a e2 => ?_⟩
      cases e2
      exact ⟨o, e, ex.2.1⟩
    · obtain ⟨o, _, _, _, e, ex, _⟩ := I.hok p _ hk
      refine ⟨⟨o, e, ex.1⟩, fun a e2 => ?_⟩
      cases e2
      exact ⟨o, e, ex.2.1⟩
  | _ => exact False.elim ty
def tBM0 (K : PySem.W.Frag) (T : String) (r : V → List V → Hp → VK → Prop) (to : TE) : TE := fun σ H Q => to σ H fun x H1 => tyV K T x H1 ∧ r x [] H1 Q
def tBM (K : PySem.W.Frag) (T : String) (r : V → List V → Hp → VK → Prop) (to : TE) (t : TA) : TE := fun σ H Q => to σ H fun x H1 => tyV K T x H1 ∧ t σ H1 fun xs H2 => r x xs H2 Q
variable {o e : Expr} {es : List Expr} {to : TE} {t : TA} {name : Str} {apos cpos : Pos} {T id : String} {r : V → List V → Hp → VK → Prop}
theorem pe_bm0 (pa : PlainAttrs T) (slot : Slot T name id) (hty : typeOf (.builtin id) = pure (.type "method_descriptor")) (hm : MtR X id r) (ho : PE X o to)
    (hbase : attributeBase o name X.env (eval o X.env) = eval o X.env := by rfl) (hline : (apos.endLine == cpos.line) = true := by rfl) : PE X (.Call (.Attribute o name apos) [] [] cpos) (tBM0 X.K T r to) := by
  intro pins s σ H Q I h
  refine wpAny_Call_method0_late hbase hline (thn (ho pins s σ H _ I h) fun v s1 ⟨x, H1, I1, r1, ty, q1⟩ => ?_)
  obtain ⟨h1, h2⟩ := tyV_is I1 r1 ty
  exact ⟨T, id, pa, slot, hty, h1, h2, Calls.callWith_builtin rfl (PySem.evalArgs_none (hm pins s1 σ H1 x [] v [] Q I1 r1 .nil q1))⟩
theorem pe_bm (pa : PlainAttrs T) (slot : Slot T name id) (hty : typeOf (.builtin id) = pure (.type "method_descriptor")) (hm : MtR X id r) (ho : PE X o to) (ha : PA X (e :: es) t)
    (hbase : attributeBase o name X.env (eval o X.env) = eval o X.env := by rfl)
    (hfew : ((backTo cpos (starEach (e :: es) X.env)).all (fun x => !x.1) && (backToKw cpos (keywordEach [] X.env)).all (fun x => x.1.isSome)
      && decide ((e :: es).length + ([] : List Keyword).length + (if ([] : List Keyword).isEmpty then 0 else 1) < 30)) = true := by rfl)
    (hline : (apos.endLine == cpos.line) = true := by rfl) (hs : starEach (e :: es) X.env = (false, eval e X.env) :: starEach es X.env := by rfl) (hplain : (backTo cpos (starEach es X.env)).any (·.1) = false := by rfl) :
    PE X (.Call (.Attribute o name apos) (e :: es) [] cpos) (tBM X.K T r to t) := by
  intro pins s σ H Q I h
  refine wpAny_Call_method_late hbase hfew hline rfl (thn (ho pins s σ H _ I h) fun v s1 ⟨x, H1, I1, r1, ty, q1⟩ => ?_)
  obtain ⟨h1, h2⟩ := tyV_is I1 r1 ty
  refine ⟨T, id, pa, slot, hty, h1, h2, ?_⟩
  have hA := ha cpos pins s1 σ H1 _ I1 q1
  rw [hs] at hA ⊢
  refine Calls.callWith_builtin (by show (false || (backTo cpos (starEach es X.env)).any (·.1)) = false; rw [hplain] <;> rfl) (Calls.evalArgs_plain ?_)
  exact thn hA fun us s2 ⟨vs, H2, I2, r2, q2⟩ => hm pins s2 σ H2 x vs v us Q I2 r1 r2 q2
/- xs.append(e), list.index on a module's tuple .. are MtR facts of 06m -/
end
end L2

namespace L2
open PySem PySem.Spec PyProof.Rows

def MtM (X : Cx) (id : String) (r : V → List V → Hp → VK → Prop) : Prop :=
  ∀ (pins : List (Addr × Obj)) (s : Shared) (σ : St) (H : Hp) (x : V) (xs : List V) (v : Value) (us : List Value) (Q : VK), Inv X pins σ H s → RelV x v → Vals xs us → r x xs H Q →
    wpAny (model X.prog X.w) X.A (call (.builtin id) (v :: us)) (EP X pins σ Q) X.xe s

/-! ### lists of values -/
theorem Vals.one : ∀ {x : V} {us : List Value}, Vals [x] us → ∃ u, us = [u] ∧ RelV x u
  | _, _, .cons r .nil => ⟨_, rfl, r⟩
theorem Vals.two : ∀ {x y : V} {us : List Value}, Vals [x, y] us → ∃ u v, us = [u, v] ∧ RelV x u ∧ RelV y v
  | _, _, _, .cons r (.cons q .nil) => ⟨_, _, rfl, r, q⟩
theorem Vals.zero : ∀ {us : List Value}, Vals [] us → us = []
  | _, .nil => rfl
theorem Vals.dropLast {xs : List V} {us : List Value} (h : Vals xs us) : Vals xs.dropLast us.dropLast := by
  induction h with
  | nil => exact .nil
  | cons r t ih =>
    cases t with
    | nil => exact .nil
    | cons q t' => exact .cons r ih
theorem Vals.reverse {xs : List V} {us : List Value} (h : Vals xs us) : Vals xs.reverse us.reverse := by
  induction h with
  | nil => exact .nil
  | cons r t ih => rw [List.reverse_cons, List.reverse_cons]; exact Vals.append ih (.cons r .nil)
theorem Vals.rep {xs : List V} {us : List Value} (h : Vals xs us) : ∀ k : Nat, Vals (List.replicate k xs).flatten (List.replicate k us).flatten
  | 0 => .nil
  | k + 1 => by
    rw [List.replicate_succ, List.replicate_succ, List.flatten_cons, List.flatten_cons]
    exact Vals.append h (Vals.rep h k)
theorem erase_last {α : Type} (l : List α) : l.eraseIdx (l.length - 1) = l.dropLast := by
  induction l with
  | nil => rfl
  | cons a r ih =>
    cases r with
    | nil => rfl
    | cons b r =>
      have e : (a :: b :: r).length - 1 = ((b :: r).length - 1) + 1 := by
        have h1 : (a :: b :: r).length = r.length + 2 := rfl
        have h2 : (b :: r).length = r.length + 1 := rfl
        omega
      rw [e, List.eraseIdx_cons_succ, ih]
      all_goals rfl
theorem foldl_rep (its : List Value) : ∀ (k : Nat) (acc : List Value),
    List.foldl (fun x1 x2 => x1 ++ x2) acc.toArray (List.replicate k its.toArray) = (acc ++ (List.replicate k its).flatten).toArray
  | 0, acc => by simp
  | k + 1, acc => by
    have e : acc.toArray ++ its.toArray = (acc ++ its).toArray := by simp
    have e2 : (acc ++ its) ++ (List.replicate k its).flatten = acc ++ (List.replicate (k + 1) its).flatten := by
      rw [List.replicate_succ, List.flatten_cons, List.append_assoc]
    rw [← e2, ← foldl_rep its k (acc ++ its), ← e, List.replicate_succ, List.foldl_cons]

section
variable {X : Cx} {pins : List (Addr × Obj)} {σ : St} {H : Hp} {s : Shared} {l b : Addr} {xs ys zs : List V}

/-! ### the two steps: a tracked list is rewritten, a new list is laid -/
theorem Inv.lset {its its' : List Value} {n : Nat} {f : Array Value → Array Value} {t' : Nat} (I : Inv X pins σ H s) (hH : H l = some (.lst xs))
    (e : s.heap.get? l = some { cls := .type "list", data := .seq its.toArray n }) (hf : f its.toArray = its'.toArray) (hv : Vals ys its') (hz : ys.length ≤ sizeLine) :
    Inv X pins σ (upd H l (.lst ys)) { s with heap := s.heap.update l (Obj.mapSeq f), toks := t' } := by
  have q := PySem.IsL.update e f
  rw [hf] at q
  refine I.write (x := l) (e := l) (by rw [hH]; exact trivial) (.inl rfl) (fun b' u hb hu => (Heap.get?_update_other s.heap (Obj.mapSeq f) (Ne.symm hb)).trans hu) ⟨_, q⟩ ?_
  exact ⟨hz, its', _, hv, q⟩
theorem Inv.lnew {its : List Value} {t' : Nat} (I : Inv X pins σ H s) (hv : Vals ys its) (hz : ys.length ≤ sizeLine) :
    Inv X pins σ (upd H s.heap.objs.size (.lst ys)) { s with heap := s.heap.push { cls := .type "list", data := .seq its.toArray }, toks := t' } :=
  I.laid (fun _ _ q => Heap.get?_push_of_some _ q) (Nat.le_refl _) ⟨hz, its, 0, hv, Heap.get?_push_size _ rfl⟩
theorem Inv.fresh (I : Inv X pins σ H s) : H s.heap.objs.size = none := I.hok.fresh (Nat.le_refl _)
theorem Inv.lstM (I : Inv X pins σ H s) (hH : H l = some (.lst xs)) : xs.length ≤ sizeLine ∧ ∃ (its : List Value) (n : Nat), Vals xs its ∧ xs.length = its.length ∧ s.heap.get? l = some { cls := .type "list", data := .seq its.toArray n } := by
  obtain ⟨z, its, n, r, e⟩ := I.hok l _ hH
  exact ⟨z, its, n, r, r.length, e⟩

theorem notLongL {n : Nat} (h : n ≤ sizeLine) : Builtin.List.listTooLong n = false := by
  unfold Builtin.List.listTooLong
  exact decide_eq_false (by omega)
end

section
variable {X : Cx}

/-! ### methods -/
def rAppend : V → List V → Hp → VK → Prop := fun x vs H Q => ∃ l xs y, x = .ref l ∧ vs = [y] ∧ H l = some (.lst xs) ∧ xs.length < sizeLine ∧ Q .non (upd H l (.lst (xs ++ [y])))
theorem mt_append : MtM X "list.append" rAppend := by
  intro pins s σ H x vs v us Q I rx rv h
  obtain ⟨l, xs, y, rfl, rfl, hH, hz, q⟩ := h
  cases rx
  obtain ⟨u, rfl, ru⟩ := rv.one
  obtain ⟨z, its, n, r, hl, e⟩ := I.lstM hH
  refine call_meets F.slot_list_append ⟨_, e, rfl⟩ F.entry_list_append (F.args_list_append_2 _ _) (PySem.list_append l its.toArray n u (by rw [List.size_toArray]; omega)) ⟨e, ?_⟩
  refine ⟨.non, _, I.lset (its' := its ++ [u]) hH e (by simp) (r.append (.cons ru .nil)) ?_, rfl, q⟩
  rw [List.length_append, List.length_singleton]
  omega

def rExtend : V → List V → Hp → VK → Prop := fun x vs H Q => ∃ l b xs zs, x = .ref l ∧ vs = [.ref b] ∧ H l = some (.lst xs) ∧ H b = some (.lst zs) ∧ xs.length + zs.length ≤ sizeLine ∧ Q .non (upd H l (.lst (xs ++ zs)))
theorem mt_extend : MtM X "list.extend" rExtend := by
  intro pins s σ H x vs v us Q I rx rv h
  obtain ⟨l, b, xs, zs, rfl, rfl, hH, hB, hz, q⟩ := h
  cases rx
  obtain ⟨u, rfl, ru⟩ := rv.one
  cases ru
  obtain ⟨z, its, n, r, hl, e⟩ := I.lstM hH
  obtain ⟨z2, its2, n2, r2, hl2, e2⟩ := I.lstM hB
  have hsz : its.toArray.size + its2.toArray.size ≤ sizeLine := by rw [List.size_toArray, List.size_toArray]; omega
  have hlong : ¬ (!its.toArray.isEmpty && Builtin.List.listTooLong (its.toArray.size + its2.toArray.size)) = true := by
    rw [notLongL hsz, Bool.and_false]
    exact Bool.false_ne_true
  refine call_meets F.slot_list_extend ⟨_, e, rfl⟩ F.entry_list_extend (F.args_list_extend_2 _ _)
    (AutoSeq1.list_extend_list_list_0 l its.toArray n b its2.toArray n2 hlong (by rw [List.size_toArray]; omega) (by omega)) ⟨e, e2, ?_⟩
  refine ⟨.non, _, I.lset (its' := its ++ its2) hH e (by simp) (r.append r2) ?_, rfl, q⟩
  rw [List.length_append]
  omega

def rPop : V → List V → Hp → VK → Prop := fun x vs H Q => ∃ l xs y, x = .ref l ∧ vs = [] ∧ H l = some (.lst xs) ∧ xs[xs.length - 1]? = some y ∧ Q y (upd H l (.lst xs.dropLast))
theorem mt_pop : MtM X "list.pop" rPop := by
  intro pins s σ H x vs v us Q I rx rv h
  obtain ⟨l, xs, y, rfl, rfl, hH, hy, q⟩ := h
  cases rx
  have hus := rv.zero
  subst hus
  obtain ⟨z, its, n, r, hl, e⟩ := I.lstM hH
  obtain ⟨u, hu, ru⟩ := r.get hy
  have hy' : its.toArray[its.toArray.size - 1]? = some u := by
    show its.toArray[its.length - 1]? = some u
    rw [← Array.getElem?_toList, ← hl]
    exact hu
  refine call_meets F.slot_list_pop ⟨_, e, rfl⟩ F.entry_list_pop (F.args_list_pop_1 _) (MeetsSeq.list_pop_last l its.toArray n u hy' (by rw [List.size_toArray]; omega)) ⟨e, ?_⟩
  refine ⟨y, _, I.lset (its' := its.dropLast) hH e ?_ r.dropLast ?_, ru, q⟩
  · show its.toArray.eraseIdxIfInBounds (its.toArray.size - 1) = its.dropLast.toArray
    rw [List.size_toArray, List.eraseIdxIfInBounds_toArray, erase_last]
  · rw [List.length_dropLast]
    omega

def rPopAt : V → List V → Hp → VK → Prop := fun x vs H Q => ∃ l xs i k y, x = .ref l ∧ vs = [.int i] ∧ H l = some (.lst xs) ∧ -(2 ^ 63) ≤ i ∧ i < 2 ^ 63 ∧ seqIndex? i xs.length = some k ∧ xs[k]? = some y ∧ Q y (upd H l (.lst (xs.eraseIdx k)))
def rReverse : V → List V → Hp → VK → Prop := fun x vs H Q => ∃ l xs, x = .ref l ∧ vs = [] ∧ H l = some (.lst xs) ∧ Q .non (upd H l (.lst xs.reverse))
def rClear : V → List V → Hp → VK → Prop := fun x vs H Q => ∃ l xs, x = .ref l ∧ vs = [] ∧ H l = some (.lst xs) ∧ Q .non (upd H l (.lst []))
/-! ### list + list, list += list, list * int -/
def rCat : R2 := fun x y H Q => ∃ l b xs zs, x = .ref l ∧ y = .ref b ∧ H l = some (.lst xs) ∧ H b = some (.lst zs) ∧ xs.length + zs.length ≤ sizeLine ∧ ∀ p, H p = none → Q (.ref p) (upd H p (.lst (xs ++ zs)))
theorem op_cat : OpR X (binaryOp .Add) rCat := by
  intro pins s σ H x y v u Q I rx ry h
  obtain ⟨l, b, xs, zs, rfl, rfl, hH, hB, hz, q⟩ := h
  cases rx
  cases ry
  obtain ⟨z, its, n, r, hl, e⟩ := I.lstM hH
  obtain ⟨z2, its2, n2, r2, hl2, e2⟩ := I.lstM hB
  refine PySem.P.add_list e e2 ?_ (by rw [List.size_toArray, List.size_toArray]; omega)
  have ea : its.toArray ++ its2.toArray = (its ++ its2).toArray := by simp
  rw [ea]
  exact ⟨.ref _, _, I.lnew (t' := s.toks) (r.append r2) (by rw [List.length_append]; omega), rfl, q _ I.fresh⟩
/-- a list times an int (a negative one is nothing) -/
def rRep : R2 := fun x y H Q => ∃ l k xs, x = .ref l ∧ y = .int k ∧ H l = some (.lst xs) ∧ -(2 ^ 63) ≤ k ∧ k < 2 ^ 63 ∧ xs.length * k.toNat ≤ sizeLine ∧
  ∀ p, H p = none → Q (.ref p) (upd H p (.lst (List.replicate k.toNat xs).flatten))
theorem len_rep {α : Type} (xs : List α) (k : Nat) : (List.replicate k xs).flatten.length = k * xs.length := by
  induction k with
  | zero => simp
  | succ k ih => rw [List.replicate_succ, List.flatten_cons, List.length_append, ih, Nat.succ_mul, Nat.add_comm]
theorem op_rep : OpR X (binaryOp .Mult) rRep := by
  intro pins s σ H x y v u Q I rx ry h
  obtain ⟨l, k, xs, rfl, rfl, hH, h1, h2, hz, q⟩ := h
  cases rx
  obtain ⟨t, rfl⟩ := ry
  obtain ⟨z, its, n, r, hl, e⟩ := I.lstM hH
  have hlen : its.toArray.size * k.toNat ≤ sizeLine := by rw [List.size_toArray, ← hl]; exact hz
  have hcap : ¬ its.toArray.size * k.toNat > (2 ^ 63 - 1) / 8 := by
    have : (sizeLine : Nat) ≤ (2 ^ 63 - 1) / 8 := by decide
    omega
  have hfit : ¬ (!Builtin.List.listFitsIndex k) = true := by
    rw [fitsIndex_both h1 h2]
    exact Bool.false_ne_true
  have hlong : ¬ Builtin.List.listTooLong (its.toArray.size * k.toNat) = true := by
    rw [notLongL hlen]
    exact Bool.false_ne_true
  have hnew : List.foldl (fun x1 x2 => x1 ++ x2) #[] (List.replicate (if its.toArray.isEmpty = true then 0 else k.toNat) its.toArray) = (List.replicate k.toNat its).flatten.toArray := by
    have f0 : ∀ m : Nat, List.foldl (fun x1 x2 => x1 ++ x2) #[] (List.replicate m its.toArray) = (List.replicate m its).flatten.toArray := fun m => by
      have := foldl_rep its m []
      rw [List.nil_append] at this
      exact this
    rw [f0]
    cases its with
    | nil => simp
    | cons a r' => rw [if_neg (by simp)]
  refine wpAny_binaryOp_repeat_ref (T := "list") (U := "int") (by decide) ⟨_, e, rfl⟩ (fun s' => typeIs_int s' k t) noFill_list_mul F.fills_int_mul F.slot_int_rmul repeat_list F.slot_int_index.lookup
    (call_meets F.slot_int_rmul (typeIs_int s k t) F.entry_int_rmul (F.args_int_rmul_2 _ _) (int___rmul___int_list k t l its.toArray n)
      ⟨e, rfl, ⟨_, e, rfl⟩, call_meets F.slot_list_mul ⟨_, e, rfl⟩ F.entry_list_mul (F.args_list_mul_2 _ _) (AutoListH.list___mul___list_int_3 l its.toArray n k t hfit hcap hlong) ⟨e, ?_⟩⟩)
  rw [hnew]
  exact ⟨.ref _, _, I.lnew (t' := s.toks) (r.rep k.toNat) (by rw [len_rep, Nat.mul_comm]; exact hz), rfl, q _ I.fresh⟩

/-! ### del xs[i] -/
end

/-! ### xs[a:b] = ys -/
section
variable {prog : Program} {w : World} {A : Around} {E : Value → Shared → Prop} {s : Shared}
set_option maxRecDepth 100000 in
end

section
variable {X : Cx}
end
end L2

namespace Att
open PySem PySem.W PySem.Calls PyProof.Rows

/-! ### the script -/
theorem ints_of_wellAll {P : Params} {h : Heap} : ∀ (ns : List Int) (vs : List Value), WellAll P h vs (ns.map WData.int) → IntsAre vs ns := by
  intro ns
  induction ns with
  | nil =>
    intro vs w
    rw [List.map_nil] at w
    cases w
    exact .nil
  | cons n ns ih =>
    intro vs w
    rw [List.map_cons] at w
    cases w with
    | cons a b =>
      cases a
      exact .cons _ _ (ih _ b)

theorem script_of {l : OpenLaw} {n : Nat} (hn : l.most = some n) {P : Params} {h : Heap} {args : List WData} {vals : List Value}
    (hpre : l.row.toRowW.claim.pre args = true) (hwl : WellAll P h vals args) :
    ∃ a vs ns, vals = [Value.ref a] ∧ args = [WData.list (ns.map WData.int)] ∧ h.get? a = some { cls := .type "list", data := .seq vs.toArray } ∧ IntsAre vs ns ∧ ns.length ≤ n := by
  have hsh : WShape.hasAll [] args [.list .int] = true := (pre_splitW hpre).1
  have hc : l.pre.holds [] { args := args } = true := (pre_splitW hpre).2
  obtain ⟨d, r, rfl, h1, h2⟩ := hasAllW_cons hsh
  obtain rfl := hasAllW_nil h2
  obtain ⟨xs, rfl, h3⟩ := hasW_list h1
  obtain ⟨ns, rfl⟩ := items_int h3
  have hlen : ns.length ≤ n := by
    unfold OpenLaw.pre at hc
    have h4 : (WTm.not (.lt (.lit (.int (n : Int))) (.len (.arg 0)))).holds [] { args := [.list (ns.map .int)] } = true := by
      have h4 := (holds_andW hc).1
      rw [hn] at h4
      exact h4
    have h5 := condW_of h4 (w_not (w_lt w_lit (w_len_list (w_arg rfl))))
    rw [List.length_map] at h5
    refine Nat.le_of_not_lt fun q => ?_
    have q' : (n : Int) < ((ns.length : Nat) : Int) := by omega
    first
      | (rw [decide_eq_true q'] at h5; exact absurd h5 (by decide))
      | (simp at h5; omega)
  cases hwl with
  | cons w1 w2 =>
    cases w2
    cases w1 with
    | list ho hall => exact ⟨_, _, ns, rfl, rfl, ho, ints_of_wellAll ns _ hall, hlen⟩

theorem post_true (l : OpenLaw) (args : List WData) : l.row.toRowW.claim.post args (.bool true) args = true :=
  postW_of (r := l.row.toRowW) (X := (true == true))
    (show WShape.has [] (.bool true) .bool = true by first | rfl | decide | simp [WShape.has, WShape.arms, WShape.armsAll])
    (show (WTm.eq .res (.lit (.bool true))).value [] { args := args, res := some (.bool true), after := args } = some (.bool (true == true)) from w_eq_bool (w_res rfl) w_lit) rfl

/-! ### the attachment: holds_open's last premise (the goal 'hc' behind k_head) from a wpAny of the law's body -/
/-- the same from a codeAny of the CALL (for a layer whose function contracts speak of calls) -/
theorem attach_call {l : OpenLaw} {n : Nat} {q : Program} {loose : List Str} {XP : (Str → Option Value) → Heap → Prop} {YP : World → Heap → Prop} {d : DefRec}
    (hn : l.most = some n) (hdf : d.params.defaults = [])
    (call : ∀ (w : World) (s₀ s₁ : Shared) (mg mb : Str → Option Value) (fa : Addr) (o : Obj) (pm cd doc : Value) (a : Addr) (vs : List Value) (ns : List Int),
      Ground q loose [] XP w s₀ mg mb s₁.heap → YP w s₁.heap →
      s₁.heap.get? fa = some o → o.data = .func (docDef d.name d.params d.body d.scope pm cd doc) → s₁.heap.CodeRec cd d.name → mg d.name = some (.ref fa) →
      s₁.heap.get? a = some { cls := .type "list", data := .seq vs.toArray } → IntsAre vs ns → ns.length ≤ n → s₁.gens = #[] →
      codeAny (model l.prog w) callerA (.call (.ref fa) ⟨[.ref a], []⟩) (fun r s' => r = .ok (.ret (.bool true)) ∧ OldK s₁.heap s'.heap ∧ s'.os = s₁.os ∧ AllBare s'.gens) s₁) :
    WalkO q loose XP YP l.row.toRowW d [] (fun f vs => PySem.call f vs) := by
  intro w s₀ s₁ mg mb G Y fa o pm cd doc dV kV ho hd hcd hD hmg hg args vals as hpre hlay hrd hwl hlo
  obtain rfl : dV = .none := Dflts.none hD hdf
  obtain rfl : kV = .none := Dflts.noKw hD
  obtain ⟨a, vs, ns, rfl, rfl, hobj, hints, hlen⟩ := script_of hn hpre hwl
  refine enter_call (codeAny_mono (call w s₀ s₁ mg mb fa o pm cd doc a vs ns G Y ho (fd_plain hd) hcd hmg hobj hints hlen hg) fun r s' hq => ?_)
  obtain ⟨rfl, h2, h3, h4⟩ := hq
  exact ⟨.inl ⟨.bool true, .bool true, [], rfl, fun _ => rfl, .bool true, post_true l _, fun _ => ⟨List.Pairwise.nil, fun _ hm => (nomatch hm)⟩⟩, h2, h3, h4⟩

/-! ### rules over ANY heap (no ledger) from facts about the written part K: the library's own take a ledger (News) for what they write -/
section
variable {prog : Program} {w : World} {A : Around} {E : Value → Shared → Prop} {s : Shared} {K : Frag}

/-! the whole heap as the ledger: makes every rule that writes through a ledger a rule over any heap -/
def noObjs (h : Heap) : Heap := { h with objs := #[] }
def ledger (h : Heap) (L d : Addr) : List (Addr × Obj) := (List.range h.objs.size).filterMap fun a => if a = L ∨ a = d then none else (h.get? a).map fun o => (a, o)
end
end Att

namespace L2
open PySem PySem.Spec PyProof.Rows

theorem vals_ints : ∀ {vs : List Value} {ns : List Int}, IntsAre vs ns → Vals (ns.map V.int) vs
  | _, _, .nil => .nil
  | _, _, .cons n t h => .cons ⟨t, rfl⟩ (vals_ints h)

/-- nothing is tracked but the script, known to the object (or it is an object of the module) -/
def Only (H : Hp) : Prop := ∀ b, H b = none ∨ ∃ o xs, H b = some (.frz o (.lst xs))

/-- THE HEAD: the law's promise, at the heap behind the top. F, the promise of the law's def, may use that base is part of the heap (so K.In base, base.Ns mainGlobals mg stand in Mod) -/
theorem law_call {P : Program} {w : World} {K : PySem.W.Frag} {mg mb : Str → Option Value} {CX : CXT} {k : Nat} {fa a : Addr} {fd : FuncData} {x : Str} {sp : Sp} {s₁ : Shared} {vs : List Value} {ns : List Int}
    (KX : K.In s₁.heap) (hns : s₁.heap.Ns mainGlobals mg) (hb : s₁.heap.Ns builtinsNs mb) (hbb : ∀ x : Str, x ≠ "__name__" → mb x = bootBuiltins x) (hlim : s₁.heap.NoLimit) (hg : s₁.gens = #[])
    (ha : s₁.heap.get? a = some { cls := .type "list", data := .seq vs.toArray }) (hi : IntsAre vs ns) (hl : ns.length ≤ sizeLine) (hr : Room k callerA)
    (F : ∀ base : Heap, K.In base → base.Ns mainGlobals mg → FnOk P w K mg base CX k fa fd [x] sp) (hbind : ∀ (s : Shared) (u : Value), BindsTo s fd ⟨[u], []⟩ [(x, u)])
    (hsp : ∀ H : Hp, Only H → SqL K H a (ns.map V.int) → sp [.ref a] H (fun v _ => v = .bl true) fun _ _ _ => False)
    (hCX : ∀ H e s', CX [] H s₁ (fun _ _ _ => False) e s' → False) :
    codeAny (model P w) callerA (.call (.ref fa) ⟨[.ref a], []⟩) (fun r s' => r = .ok (.ret (.bool true)) ∧ OldK s₁.heap s'.heap ∧ s'.os = s₁.os ∧ AllBare s'.gens) s₁ := by
  have rv := vals_ints hi
  have lenV := hi.length
  -- from an abstract heap in which nothing but the script may be tracked
  have core : ∀ H : Hp, Only H → SqL K H a (ns.map V.int) → HOk P w H s₁.heap → (∀ b, H b ≠ none → b = a) → (H a ≠ none → K.lookup a = none) →
      codeAny (model P w) callerA (.call (.ref fa) ⟨[.ref a], []⟩) (fun r s' => r = .ok (.ret (.bool true)) ∧ OldK s₁.heap s'.heap ∧ s'.os = s₁.os ∧ AllBare s'.gens) s₁ := by
    intro H hO hS hok hA hK
    have base_of : ∀ {b : Addr} {o : Obj}, s₁.heap.get? b = some o → H b = none → (hidT s₁.heap H).get? b = some o := fun e n => hidT_get e n
    have noA : ∀ {b : Addr} {o : Obj} {es : Array DictEntry} {ep : Nat}, s₁.heap.get? b = some o → o.data = .dict es ep → H b = none := fun {b o es ep} e d => by
      cases q : H b with
      | none => rfl
      | some u =>
        have e' : b = a := hA b (by rw [q]; simp)
        subst e'
        rw [ha] at e; cases e
        have d' : Data.seq vs.toArray _ = Data.dict es ep := d
        cases d'
    have nsK : ∀ {b : Addr} {m : Str → Option Value}, s₁.heap.Ns b m → (hidT s₁.heap H).Ns b m := fun {b m} ⟨o, es, ep, e, d, r⟩ => ⟨o, es, ep, base_of e (noA e d), d, r⟩
    have hKb : K.In (hidT s₁.heap H) := fun b o e => base_of (KX b o e) (by
      cases q : H b with
      | none => rfl
      | some u =>
        have e' : b = a := hA b (by rw [q]; simp)
        subst e'
        rw [hK (by rw [q]; simp)] at e; cases e)
    have hM : Mod K mg (hidT s₁.heap H) := ⟨hKb, nsK hns, ⟨mb, nsK hb, hbb⟩, let ⟨mc, h1, h2⟩ := hlim; ⟨mc, nsK h1, h2⟩⟩
    have e0 : Env0 P w K mg (hidT s₁.heap H) callerA [] s₁ H := ⟨rfl, hM, fun b o e => of_hidT e, Nat.le_of_eq (hidT_size _ _), trivial, fun b hb => absurd (show b ∈ ([] : List Addr) from hb) (by simp), hok, .of_eq hg⟩
    refine codeAny_mono ((F _ hKb (nsK hns)).run callerA [] s₁ H ⟨[.ref a], []⟩ [.ref a] [.ref a] _ _ hr e0 (hbind s₁ (.ref a)) (.cons rfl .nil) (hsp H hO hS)) fun r s' h => ?_
    cases r with
    | error e => exact (hCX H e s' h).elim
    | ok fl =>
      cases fl with
      | next => exact False.elim h
      | brk => exact False.elim h
      | cont => exact False.elim h
      | ret u =>
        obtain ⟨v, H', os, bare, un, hok', r', q⟩ := h
        have q' : v = .bl true := q
        subst q'
        obtain rfl : u = Value.bool true := r'
        refine ⟨rfl, OldK.of_keep fun b o e => ?_, os, bare⟩
        cases q : H b with
        | none => exact un.keep b o e q (by intro z; exact absurd (show b ∈ ([] : List Addr) from z) (by simp)) (by simp)
        | some u =>
          rcases hO b with z | ⟨ob, xs, z⟩
          · rw [q] at z; cases z
          · have z2 := un.frzs b ob _ z
            obtain ⟨e1, _⟩ := hok b _ z
            obtain ⟨e2, _⟩ := hok' b _ z2
            rw [e] at e1; cases e1
            exact e2
  cases hk : K.lookup a with
  | some o =>
    -- the script is one of the module's own objects
    have e := KX a o hk
    rw [ha] at e
    cases e
    refine core (fun _ => none) (fun _ => .inl rfl) (.inr ⟨_, vs.toArray, _, hk, rfl, rfl, rfl, by rw [List.size_toArray, lenV]; exact hl, by simpa using rv⟩) (fun b u z => by have z' : (none : Option HO) = some u := z; cases z') (fun b z => absurd rfl z) fun z => absurd rfl z
  | none =>
    refine core (fun b => if b = a then some (.frz { cls := .type "list", data := .seq vs.toArray } (.lst (ns.map V.int))) else none) (fun b => ?_) (.inl (.inr ⟨{ cls := .type "list", data := .seq vs.toArray }, if_pos rfl⟩)) (fun b u z => ?_) (fun b z => ?_) fun _ => hk
    · by_cases hb : b = a
      · exact .inr ⟨_, _, if_pos hb⟩
      · exact .inl (if_neg hb)
    · by_cases hb : b = a
      · have z' := (if_pos hb).symm.trans z
        cases z'
        subst hb
        exact ⟨ha, by rw [List.length_map]; exact hl, vs, _, rv, ha⟩
      · have z' := (if_neg hb).symm.trans z
        cases z'
    · by_cases hb : b = a
      · exact hb
      · exact absurd (if_neg hb) z
end L2

namespace L2
open PySem PySem.Spec PyProof.Rows

abbrev KOf {K : PySem.W.Frag} {h : Heap} (_ : K.In h) : PySem.W.Frag := K

/-- the goal that k_head leaves (case hc), from the law's promise. F gives the function object fd (K's own) once, then the promise over every base -/
theorem walk_of {l : PySem.W.OpenLaw} {n k : Nat} {q : Program} {loose : List Str} {XP : (Str → Option Value) → Heap → Prop} {YP : World → Heap → Prop} {d : DefRec} {K : Params → PySem.W.Frag} {CX : World → CXT} {sp : World → Sp} {x : Str}
    (hn : l.most = some n) (hn2 : n ≤ sizeLine) (hdf : d.params.defaults = []) (hr : Room k callerA)
    (hY : ∀ (w : World) (h : Heap), YP w h → (K w.params).In h)
    (F : ∀ (w : World) (mg : Str → Option Value) (fa : Addr) (h : Heap), (K w.params).In h → h.Ns mainGlobals mg → mg d.name = some (.ref fa) →
      ∃ fd : FuncData, (∀ (s : Shared) (u : Value), BindsTo s fd ⟨[u], []⟩ [(x, u)]) ∧
        ∀ base : Heap, (K w.params).In base → base.Ns mainGlobals mg → FnOk l.prog w (K w.params) mg base (CX w) k fa fd [x] (sp w))
    (hsp : ∀ (w : World) (H : Hp) (a : Addr) (ns : List Int), ns.length ≤ n → Only H → SqL (K w.params) H a (ns.map V.int) → sp w [.ref a] H (fun v _ => v = .bl true) fun _ _ _ => False)
    (hCX : ∀ (w : World) (H : Hp) (s : Shared) (e : Value) (s' : Shared), CX w [] H s (fun _ _ _ => False) e s' → False) :
    PySem.W.WalkO q loose XP YP l.row.toRowW d [] (fun f vs => PySem.call f vs) := by
  refine Att.attach_call hn hdf fun w s₀ s₁ mg mb fa o pm cd doc a vs ns G Y ho hd hcd hmg hobj hints hlen hg => ?_
  have KX := hY w _ Y
  obtain ⟨fd, hb, hF⟩ := F w mg fa _ KX G.T.g hmg
  exact law_call KX G.T.g G.T.b G.T.builtins G.T.nolimit hg hobj hints (Nat.le_trans hlen hn2) hr hF hb (fun H hO hS => hsp w H a ns hlen hO hS) fun H e s' => hCX w H s₁ e s'
end L2

/- THE LAST THEOREM (shape; LID, My.* are yours):
   My.Adr: a structure of the addresses that your layer names (classes, functions); My.Txt K t: a structure (Prop) of the equations over K;
   My.txt_mk : {K} {implicit addresses ..} (e1 : nsIn K mainGlobals "law" = some (some (.ref f))) (e2 : K.lookup f = some ⟨oc, od, .func (fnOf "law" "law" params body scope dV kV doc pm an cdv ct), sl⟩) (e3 : codeIn K cdv "law" = true) .. : ∃ t, My.Txt K t

set_option maxRecDepth 100000 in
set_option maxHeartbeats 0 in
theorem PySem.Challenge.cw_LID_holds : PySem.Challenge.rw_LID.Holds := by
  w_on; o_law; k_head; (case hw => w_witness2)
  k_fill
  refine L2.walk_of (l := PySem.Challenge.rw_LID) (n := 63) (k := 40) (x := "script") (CX := fun w => ..) (sp := fun _ => My.sp_law) rfl (by decide) rfl ⟨rfl, by decide, by decide⟩ (fun w h Y => PySem.W.kIn_of Y) ?F ?S ?C
  case F =>
    intro w mg fa h KX G hmg
    have T : ∃ t, My.Txt (L2.KOf KX) t := by
      dsimp only [L2.KOf]                          -- K must stand as «<heap const> w.params» for k_is
      refine' My.txt_mk ?e1 ?e2 ?e3 ..
      (case e1 => PySem.W.k_is)                    -- in the order: a name -> its address -> its object -> its parts
      (case e2 => PySem.W.k_is)
      ..
    obtain ⟨t, T⟩ := T
    have e0 := hmg.symm.trans (PySem.W.mg_of KX G T.law)
    cases e0                                       -- fa is the law's own address
    exact ⟨_, fun s u => .of_eq rfl, fun base kb nb => My.law_fn T kb nb⟩     -- if «.of_eq rfl» comes too early: refine' ⟨_, ?b, fun base kb nb => My.law_fn T kb nb⟩; exact fun s u => .of_eq rfl
  case S => exact fun w H a ns hl hO hS => ..
  case C => exact ..
(the tactic k_is has no namespace: write k_is) -/

/-! SHORT WORDS over the layer: a def of the text, its body, what a loop and a test want. -/
namespace L2
open PySem PySem.Spec PyProof.Rows

/-! ### the text by places -/
/-- the j-th statement of a class's body -/
def inClass (s : Stmt) (j : Nat) : Stmt := match s with
  | .ClassDef _ _ _ body _ _ _ _ _ _ _ => body.getD j (.Pass ⟨0, 0, 0, 0⟩)
  | _ => .Pass ⟨0, 0, 0, 0⟩
def defArgs (s : Stmt) : Arguments := match s with
  | .FunctionDef _ a _ _ _ _ _ _ _ _ => a
  | _ => { posonlyargs := [], args := [], vararg := none, kwonlyargs := [], kw_defaults := [], kwarg := none, defaults := [] }
def defBody (s : Stmt) : List Stmt := match s with
  | .FunctionDef _ _ b _ _ _ _ _ _ _ => b
  | _ => []
def defScope (s : Stmt) : Scope := match s with
  | .FunctionDef _ _ _ _ _ _ sc _ _ _ => sc
  | _ => { kind := .function, names := [], isGenerator := false, isCoroutine := false }

/-! ### no exception leaves a def -/
abbrev CX0 : CXT := fun _ _ _ _ _ _ => False
abbrev E0 : XK := fun _ _ _ => False
theorem pass0 {X : Cx} : Passes CX0 X E0 := fun _ _ _ _ _ _ _ h => h.elim

/-! ### a def (or method) of the text as it stands behind the top -/
structure Fun (K : PySem.W.Frag) (x qual : Str) (st : Stmt) (f : Addr) (fd : FuncData) : Prop where
  ex : ∃ (oc : Value) (od : Option Addr) (kV doc pm : Value) (an : Option Addr) (cdv ct : Value) (osl : Array (Option Value)),
    fd = PySem.W.fnOf x qual (defArgs st) (defBody st) (defScope st) .none kV doc pm an cdv ct ∧ K.lookup f = some ⟨oc, od, .func fd, osl⟩ ∧ PySem.W.codeIn K cdv qual = true
  kp : PySem.W.keepIn K (.ref f) = true
section
variable {P : Program} {w : World} {K : PySem.W.Frag} {mg : Str → Option Value} {base : Heap}
/-- THE RULE for a def: its body as a term of rules, and the reading of that term -/
theorem Fun.ok {x qual : Str} {st : Stmt} {f : Addr} {fd : FuncData} {N ps : List Str} {k : Nat} {sp : Sp} (F : Fun K x qual st f fd) (S : FnScope N ps (defScope st)) (len : ∀ vs H Q E, sp vs H Q E → vs.length = ps.length)
    (hbody : ∀ (cdv : Value) (A : Around) (outer : List Env) (s : Shared) (H : Hp) (vs : List V) (Q : VK) (E : XK), Room k (A.deeper (envOfC qual (defScope st) s.heap.objs.size f cdv)) → sp vs H Q E →
      ∃ t, PSs (cxOf CX0 P w K mg base N qual (defScope st) f cdv A outer s H E).nox (defBody st) t ∧ t { nx := fun _ H' => Q .non H', rt := Q } (start N vs) H) : FnOk P w K mg base CX0 (k + 1) f fd ps sp := by
  obtain ⟨oc, od, kV, doc, pm, an, cdv, ct, osl, rfl, lk, hcd⟩ := F.ex
  refine fn_of lk hcd S len fun A outer s H vs Q E hr hsp => ?_
  obtain ⟨t, h, q⟩ := hbody cdv A outer s H vs Q E hr hsp
  exact ⟨t, h.nox, q⟩
/-- how its arguments bind (no defaults): h is «fun _ _ _ _ _ _ us hl => match us, hl with | [_, _], _ => rfl», one _ a parameter -/
theorem Fun.binds {x qual : Str} {st : Stmt} {f : Addr} {fd : FuncData} {ps : List Str} (F : Fun K x qual st f fd)
    (h : ∀ (kV doc pm : Value) (an : Option Addr) (cdv ct : Value) (us : List Value), us.length = ps.length → bindArgs (PySem.W.fnOf x qual (defArgs st) (defBody st) (defScope st) .none kV doc pm an cdv ct) ⟨us, []⟩ = pure (ps.zip us)) : Binds K fd ps [] := by
  obtain ⟨oc, od, kV, doc, pm, an, cdv, ct, osl, rfl, lk, hcd⟩ := F.ex
  exact .all (h kV doc pm an cdv ct)
theorem fun_mk {x qual : Str} {st : Stmt} {f : Addr} {oc : Value} {od an : Option Addr} {osl : Array (Option Value)} {kV doc pm cdv ct : Value} (l : K.lookup f = some ⟨oc, od, .func (PySem.W.fnOf x qual (defArgs st) (defBody st) (defScope st) .none kV doc pm an cdv ct), osl⟩)
    (c : PySem.W.codeIn K cdv qual = true) (k : PySem.W.keepIn K (.ref f) = true) : Fun K x qual st f (PySem.W.fnOf x qual (defArgs st) (defBody st) (defScope st) .none kV doc pm an cdv ct) := ⟨⟨oc, od, kV, doc, pm, an, cdv, ct, osl, rfl, l, c⟩, k⟩
end
theorem small1000 {n : Nat} (h : n ≤ 1000) : n < sizeLine := Nat.lt_of_le_of_lt h (by decide)

/-! ### expressions in short: the name that stands in the i-th slot -/
section
variable {X : Cx}
theorem pv (i : Nat) {x : Str} {pos : Pos} (hN : X.N[i]? = some x := by rfl) (hv : Vis X.env.scope x := by first | exact Or.inl rfl | exact Or.inr (Or.inl rfl) | exact Or.inr (Or.inr rfl)) (hd : (x == ("__debug__" : Str)) = false := by decide)
    (hcd : (x == ("__classdict__" : Str)) = false := by decide) : PE X (.Name x pos) (tVar i) := pe_var hN hv hd hcd
end

/-! ### tests -/
theorem iteF {A B : Prop} (h : B) : if false = true then A else B := by
  rw [if_neg Bool.false_ne_true]
  exact h
theorem iteT {A B : Prop} (h : A) : if true = true then A else B := by
  rw [if_pos rfl]
  exact h
theorem ite2 {c A B : Prop} [Decidable c] (h1 : c → A) (h2 : ¬ c → B) : if c then A else B := by
  by_cases h : c
  · rw [if_pos h]
    exact h1 h
  · rw [if_neg h]
    exact h2 h
/-! ### heaps -/
/-- all that was tracked is as it was -/
def Same (H H' : Hp) : Prop := ∀ b o, H b = some o → H' b = some o
theorem Same.refl (H : Hp) : Same H H := fun _ _ h => h
theorem Same.trans {H H1 H2 : Hp} (a : Same H H1) (b : Same H1 H2) : Same H H2 := fun c o h => b c o (a c o h)
theorem Same.free {H H' : Hp} (e : Same H H') {l : Addr} (h : H' l = Option.none) : H l = Option.none := by
  cases q : H l with
  | none => rfl
  | some o =>
    rw [e l o q] at h
    cases h
theorem Same.seq {K : PySem.W.Frag} {H H' : Hp} {a : Addr} {xs : List V} (e : Same H H') (h : SqL K H a xs) : SqL K H' a xs := by
  rcases h with (h | ⟨o, h⟩) | h
  · exact .inl (.inl (e _ _ h))
  · exact .inl (.inr ⟨o, e _ _ h⟩)
  · exact .inr h

end L2

-- K2M
namespace K2
/-! the mathematics of texts of programs: code points as lists of numbers -/
abbrev T := List Nat
def tx (s : String) : T := s.toList.map Char.toNat

inductive Atom where
  | non | int (i : Int) | str (x : T)
  deriving DecidableEq
inductive PV where
  | at (a : Atom) | tup (xs : List PV)

def numT : Int → T
  | .ofNat n => (Nat.toDigits 10 n).map Char.toNat
  | .negSucc n => 45 :: (Nat.toDigits 10 (n + 1)).map Char.toNat
theorem numT_eq (i : Int) : numT i = tx (toString i) := by
  cases i with
  | ofNat n =>
    show (Nat.toDigits 10 n).map Char.toNat = ((Int.ofNat n).repr).toList.map Char.toNat
    have e : (Int.ofNat n).repr = Nat.repr n := rfl
    rw [e]
    unfold Nat.repr
    rw [String.toList_ofList]
  | negSucc n =>
    show 45 :: (Nat.toDigits 10 (n + 1)).map Char.toNat = ((Int.negSucc n).repr).toList.map Char.toNat
    have e : (Int.negSucc n).repr = "-" ++ Nat.repr (n + 1) := rfl
    rw [e]
    unfold Nat.repr
    rw [String.toList_append, String.toList_ofList]
    simp
def wSend : T := [115, 101, 110, 100]
def wTake : T := [116, 97, 107, 101]
def wPost : T := [112, 111, 115, 116]
def wWait : T := [119, 97, 105, 116]
def wTell : T := [116, 101, 108, 108]
def wAdd : T := [97, 100, 100]
def wCase : T := [99, 97, 115, 101]
def wAll : T := [97, 108, 108]
def wAny : T := [97, 110, 121]
def Atom.text : Atom → T
  | .non => [97, 110, 121]
  | .int i => numT i
  | .str x => x

def joinT (sep : T) : List T → T
  | [] => []
  | [x] => x
  | x :: y :: r => x ++ sep ++ joinT sep (y :: r)
theorem joinT_two (sep x y : T) (r : List T) : joinT sep (x :: y :: r) = x ++ sep ++ joinT sep (y :: r) := rfl

mutual
def textItem : PV → T
  | .at a => a.text
  | .tup rs => 123 :: (textRows rs ++ [125])
def textRow : PV → T
  | .at _ => []
  | .tup its => textItems its
def textItems : List PV → T
  | [] => []
  | p :: r => match r with
    | [] => textItem p
    | q :: r' => textItem p ++ [32] ++ textItems (q :: r')
def textRows : List PV → T
  | [] => []
  | p :: r => match r with
    | [] => textRow p
    | q :: r' => textRow p ++ [59, 32] ++ textRows (q :: r')
end

theorem textItems_join : ∀ l : List PV, textItems l = joinT [32] (l.map textItem)
  | [] => by simp [textItems, joinT]
  | [p] => by simp [textItems, joinT]
  | p :: q :: r => by
    have ih := textItems_join (q :: r)
    rw [textItems]
    simp only [List.map_cons, joinT_two] at ih ⊢
    rw [ih]
theorem textRows_join : ∀ l : List PV, textRows l = joinT [59, 32] (l.map textRow)
  | [] => by simp [textRows, joinT]
  | [p] => by simp [textRows, joinT]
  | p :: q :: r => by
    have ih := textRows_join (q :: r)
    rw [textRows]
    simp only [List.map_cons, joinT_two] at ih ⊢
    rw [ih]

/-! ### words -/
def sp (c : Nat) : Bool := PySem.Unicode.isSpace c
def wg (s : Nat → Bool) (cur : T) : T → List T
  | [] => if cur.isEmpty then [] else [cur]
  | c :: r => if s c then (if cur.isEmpty then [] else [cur]) ++ wg s [] r else wg s (cur ++ [c]) r
theorem wg_space {s : Nat → Bool} {c : Nat} (hc : s c = true) (y : T) : ∀ (x cur : T), wg s cur (x ++ c :: y) = wg s cur x ++ wg s [] y
  | [], cur => by simp [wg, hc]
  | a :: x, cur => by
    rw [List.cons_append]
    simp only [wg]
    by_cases h : s a = true
    · rw [if_pos h, if_pos h, wg_space hc y x [], List.append_assoc]
    · rw [if_neg h, if_neg h, wg_space hc y x]
theorem wg_word {s : Nat → Bool} : ∀ (x cur : T), (∀ c ∈ x, s c = false) → wg s cur x = if (cur ++ x).isEmpty then [] else [cur ++ x]
  | [], cur, _ => by simp [wg]
  | a :: x, cur, h => by
    have ha : s a = false := h a List.mem_cons_self
    simp only [wg, ha, Bool.false_eq_true, if_false]
    rw [wg_word x (cur ++ [a]) fun c hc => h c (List.mem_cons_of_mem _ hc)]
    simp
def clean (x : T) : Bool := !x.isEmpty && x.all fun c => !sp c && c != 123 && c != 125 && c != 59
def ex1 (c : Nat) : T := if c == 123 || c == 125 || c == 59 then [32, c, 32] else [c]
def ex (x : T) : T := x.flatMap ex1
theorem ex_append (a b : T) : ex (a ++ b) = ex a ++ ex b := by simp [ex]
theorem ex_cons (c : Nat) (b : T) : ex (c :: b) = ex1 c ++ ex b := by simp [ex]
theorem ex_clean {x : T} (h : clean x = true) : ex x = x := by
  have h2 : ∀ c ∈ x, ex1 c = [c] := by
    intro c hc
    simp only [clean, Bool.and_eq_true, List.all_eq_true] at h
    have q := h.2 c hc
    simp only [Bool.and_eq_true, bne_iff_ne, ne_eq] at q
    simp [ex1, q]
  clear h
  induction x with
  | nil => rfl
  | cons a x ih => rw [ex_cons, h2 a List.mem_cons_self, ih fun c hc => h2 c (List.mem_cons_of_mem _ hc)]; rfl
def tok (x : T) : List T := wg sp [] (ex x)
theorem sp32 : sp 32 = true := by decide
theorem tok_space (x y : T) : tok (x ++ 32 :: y) = tok x ++ tok y := by
  unfold tok
  rw [ex_append, ex_cons, show ex1 32 = [32] by decide]
  exact wg_space sp32 _ _ _
theorem tok_sign {c : Nat} (hc : c = 123 ∨ c = 125 ∨ c = 59) (x y : T) : tok (x ++ c :: y) = tok x ++ [c] :: tok y := by
  unfold tok
  rw [ex_append, ex_cons]
  have e : ex1 c = [32, c, 32] := by rcases hc with h | h | h <;> subst h <;> decide
  have e2 : wg sp [] [c] = [[c]] := by rcases hc with h | h | h <;> subst h <;> decide
  rw [e]
  show wg sp [] (ex x ++ 32 :: ([c] ++ 32 :: ex y)) = _
  rw [wg_space sp32, wg_space sp32, e2]
  rfl
theorem tok_nil : tok [] = [] := by decide
theorem tok_clean {x : T} (h : clean x = true) : tok x = [x] := by
  unfold tok
  rw [ex_clean h, wg_word x [] fun c hc => by
    simp only [clean, Bool.and_eq_true, List.all_eq_true] at h
    have q := h.2 c hc
    simp only [Bool.and_eq_true, Bool.not_eq_true'] at q
    exact q.1.1.1]
  simp only [clean, Bool.and_eq_true, Bool.not_eq_true'] at h
  simp [h.1]
theorem tok_joined : ∀ ws : List T, (∀ x ∈ ws, clean x = true) → tok (joinT [32] ws) = ws
  | [], _ => tok_nil
  | [x], h => tok_clean (h x List.mem_cons_self)
  | x :: y :: r, h => by
    rw [joinT_two, List.append_assoc]
    show tok (x ++ 32 :: joinT [32] (y :: r)) = _
    rw [tok_space, tok_clean (h x List.mem_cons_self), tok_joined (y :: r) fun z hz => h z (List.mem_cons_of_mem _ hz)]
    rfl

/-! ### the reading machine -/
inductive Kind where
  | hand | mark | thing | anyHand | anyMark | box | number | rows
  deriving DecidableEq
def form (x : T) : Option (List Kind) :=
  if x = wSend then some [.hand, .mark, .thing]
  else if x = wTake then some [.anyHand, .anyMark, .box]
  else if x = wPost then some [.box, .anyHand, .anyMark, .box]
  else if x = wWait then some [.box]
  else if x = wTell then some [.thing]
  else if x = wAdd then some [.box, .thing, .thing]
  else if x = wCase then some [.box, .number, .rows, .rows]
  else if x = wAll then some []
  else none
def mayAny : Option Kind → Bool
  | some .anyHand => true
  | some .anyMark => true
  | _ => false
def nextKind : List PV → Option Kind
  | .at (.str x) :: r => ((form x).getD [])[r.length]?
  | _ => none
def isDig (c : Nat) : Bool := 48 ≤ c && c ≤ 57
def digs (x : T) : T := match x with | 45 :: r => r | _ => x
def isNumT (x : T) : Bool := 1 ≤ (digs x).length && (digs x).length ≤ 7 && (digs x).all isDig
def natOf (x : T) : Nat := x.foldl (fun a c => 10 * a + (c - 48)) 0
def intOf (x : T) : Int := match x with | 45 :: r => -(natOf r : Int) | _ => natOf x
def readWord (x : T) (row : List PV) : Atom :=
  if x = wAny ∧ mayAny (nextKind row) = true then .non
  else if isNumT x = true then .int (intOf x)
  else .str x
structure MS where
  around : List (List PV × List PV)
  rows : List PV
  row : List PV
def withLast (rows row : List PV) : List PV := if row.isEmpty then rows else rows ++ [.tup row]
def step (s : MS) (x : T) : Option MS :=
  if x = [123] then some ⟨(s.rows, s.row) :: s.around, [], []⟩
  else if x = [125] then match s.around with
    | [] => none
    | (r0, w0) :: a => some ⟨a, r0, w0 ++ [.tup (withLast s.rows s.row)]⟩
  else if x = [59] then some ⟨s.around, s.rows ++ [.tup s.row], []⟩
  else some ⟨s.around, s.rows, s.row ++ [.at (readWord x s.row)]⟩
def run : MS → List T → Option MS
  | s, [] => some s
  | s, x :: r => (step s x).bind fun s' => run s' r
theorem run_append : ∀ (xs ys : List T) (s : MS), run s (xs ++ ys) = (run s xs).bind fun s' => run s' ys
  | [], _, _ => rfl
  | x :: xs, ys, s => by
    rw [List.cons_append]
    simp only [run]
    cases e : step s x with
    | none => rfl
    | some s' => simp only [Option.bind_some]; exact run_append xs ys s'
def readLine (x : T) : Option (List PV) := (run ⟨[], [], []⟩ (tok x)).map fun s => withLast s.rows s.row

/-! ### drawn rows -/
def atoms (l : List Atom) : List PV := l.map PV.at
def plain (x : T) : Bool := x != [123] && x != [125] && x != [59]
theorem clean_plain {x : T} (h : clean x = true) : x ≠ [123] ∧ x ≠ [125] ∧ x ≠ [59] := by
  refine ⟨?_, ?_, ?_⟩ <;> (intro e; subst e; revert h; decide)
/-- what is written of the items is read back, each behind those ahead -/
def backs (pre : List Atom) : List Atom → Bool
  | [] => true
  | a :: r => clean a.text && decide (readWord a.text (atoms pre) = a) && backs (pre ++ [a]) r
theorem run_backs (ar : List (List PV × List PV)) (rows : List PV) : ∀ (its pre : List Atom), backs pre its = true → run ⟨ar, rows, atoms pre⟩ (its.map Atom.text) = some ⟨ar, rows, atoms (pre ++ its)⟩
  | [], pre, _ => by simp [run]
  | a :: r, pre, h => by
    simp only [backs, Bool.and_eq_true, decide_eq_true_eq] at h
    obtain ⟨⟨hc, hr⟩, hb⟩ := h
    obtain ⟨n1, n2, n3⟩ := clean_plain hc
    have ih := run_backs ar rows r (pre ++ [a]) hb
    simp only [List.map_cons, run, step, if_neg n1, if_neg n2, if_neg n3, Option.bind_some, hr]
    have e : atoms pre ++ [PV.at a] = atoms (pre ++ [a]) := by simp [atoms]
    rw [e, ih, List.append_assoc]
    rfl
theorem backs_clean : ∀ (its pre : List Atom), backs pre its = true → ∀ x ∈ its.map Atom.text, clean x = true
  | [], _, _, x, hx => by simp at hx
  | a :: r, pre, h, x, hx => by
    simp only [backs, Bool.and_eq_true] at h
    rcases List.mem_cons.mp hx with e | hx
    · rw [e]; exact h.1.1
    · exact backs_clean r _ h.2 x hx
theorem text_atoms (its : List Atom) : textItems (atoms its) = joinT [32] (its.map Atom.text) := by
  rw [textItems_join]
  congr 1
  simp [atoms, textItem, Function.comp_def]
theorem tok_atoms {its : List Atom} (h : backs [] its = true) : tok (textItems (atoms its)) = its.map Atom.text := by
  rw [text_atoms]; exact tok_joined _ (backs_clean its [] h)

inductive DRow where
  | flat (its : List Atom)
  | cas (hd : List Atom) (r1 r2 : List Atom)
def DRow.pv : DRow → PV
  | .flat its => .tup (atoms its)
  | .cas hd r1 r2 => .tup (atoms hd ++ [.tup [.tup (atoms r1)], .tup [.tup (atoms r2)]])
def DRow.ok : DRow → Bool
  | .flat its => !its.isEmpty && backs [] its
  | .cas hd r1 r2 => !hd.isEmpty && backs [] hd && !r1.isEmpty && backs [] r1 && !r2.isEmpty && backs [] r2
def DRow.toks : DRow → List T
  | .flat its => its.map Atom.text
  | .cas hd r1 r2 => hd.map Atom.text ++ [[123]] ++ r1.map Atom.text ++ [[125], [123]] ++ r2.map Atom.text ++ [[125]]
theorem joinT_snoc (sep : T) (x : T) : ∀ (ws : List T), ws ≠ [] → joinT sep (ws ++ [x]) = joinT sep ws ++ sep ++ x
  | [], h => absurd rfl h
  | [a], _ => rfl
  | a :: b :: r, _ => by
    have ih := joinT_snoc sep x (b :: r) (by simp)
    show joinT sep (a :: b :: (r ++ [x])) = _
    rw [joinT_two, joinT_two]
    rw [show b :: (r ++ [x]) = (b :: r) ++ [x] from rfl, ih]
    simp [List.append_assoc]
theorem textRow_cas (hd r1 r2 : List Atom) (h : hd ≠ []) :
    textRow (DRow.cas hd r1 r2).pv = textItems (atoms hd) ++ 32 :: 123 :: (textItems (atoms r1) ++ 125 :: 32 :: 123 :: (textItems (atoms r2) ++ 125 :: [])) := by
  have e : ∀ r : List Atom, textItem (.tup [.tup (atoms r)]) = 123 :: (textItems (atoms r) ++ [125]) := fun r => by
    simp [textItem, textRows, textRow]
  have h' : (atoms hd).map textItem ≠ [] := by
    cases hd with
    | nil => exact absurd rfl h
    | cons a r => simp [atoms]
  simp only [DRow.pv, textRow]
  rw [textItems_join, List.map_append, List.map_cons, List.map_cons, List.map_nil]
  rw [show (atoms hd).map textItem ++ [textItem (.tup [.tup (atoms r1)]), textItem (.tup [.tup (atoms r2)])] = ((atoms hd).map textItem ++ [textItem (.tup [.tup (atoms r1)])]) ++ [textItem (.tup [.tup (atoms r2)])] by simp]
  rw [joinT_snoc _ _ _ (by simp), joinT_snoc _ _ _ h', ← textItems_join, e, e]
  simp [List.append_assoc]
theorem tok_row {d : DRow} (h : d.ok = true) : tok (textRow d.pv) = d.toks := by
  cases d with
  | flat its =>
    simp only [DRow.ok, Bool.and_eq_true] at h
    simp only [DRow.pv, textRow, DRow.toks]
    exact tok_atoms h.2
  | cas hd r1 r2 =>
    simp only [DRow.ok, Bool.and_eq_true, Bool.not_eq_true', List.isEmpty_eq_false_iff] at h
    obtain ⟨⟨⟨⟨⟨h1, h2⟩, h3⟩, h4⟩, h5⟩, h6⟩ := h
    rw [textRow_cas hd r1 r2 h1, tok_space]
    rw [show (123 :: (textItems (atoms r1) ++ 125 :: 32 :: 123 :: (textItems (atoms r2) ++ 125 :: [])) : T) = [] ++ 123 :: (textItems (atoms r1) ++ 125 :: 32 :: 123 :: (textItems (atoms r2) ++ 125 :: [])) from rfl]
    rw [tok_sign (.inl rfl), tok_sign (.inr (.inl rfl))]
    rw [show (32 :: 123 :: (textItems (atoms r2) ++ 125 :: []) : T) = [] ++ 32 :: ([] ++ 123 :: (textItems (atoms r2) ++ 125 :: [])) from rfl]
    rw [tok_space, tok_sign (.inl rfl), tok_sign (.inr (.inl rfl)), tok_atoms h2, tok_atoms h4, tok_atoms h6, tok_nil]
    simp [DRow.toks]
theorem run_row {d : DRow} (h : d.ok = true) (ar : List (List PV × List PV)) (rows : List PV) : ∃ its, d.pv = .tup its ∧ its ≠ [] ∧ run ⟨ar, rows, []⟩ d.toks = some ⟨ar, rows, its⟩ := by
  cases d with
  | flat its =>
    simp only [DRow.ok, Bool.and_eq_true, Bool.not_eq_true', List.isEmpty_eq_false_iff] at h
    refine ⟨_, rfl, ?_, ?_⟩
    · intro e
      apply h.1
      simpa [atoms] using e
    · have := run_backs ar rows its [] h.2
      simpa [DRow.toks, atoms] using this
  | cas hd r1 r2 =>
    simp only [DRow.ok, Bool.and_eq_true, Bool.not_eq_true', List.isEmpty_eq_false_iff] at h
    obtain ⟨⟨⟨⟨⟨h1, h2⟩, h3⟩, h4⟩, h5⟩, h6⟩ := h
    refine ⟨_, rfl, by simp, ?_⟩
    have nz : ∀ r : List Atom, r ≠ [] → (atoms r).isEmpty = false := fun r hr => by
      cases r with
      | nil => exact absurd rfl hr
      | cons a r => rfl
    have e0 := run_backs ar rows hd [] h2
    have e1 := run_backs ((rows, atoms hd) :: ar) [] r1 [] h4
    have e2 := run_backs ((rows, atoms hd ++ [.tup [.tup (atoms r1)]]) :: ar) [] r2 [] h6
    simp only [List.nil_append] at e0 e1 e2
    simp only [DRow.toks, List.append_assoc, run_append]
    rw [show (⟨ar, rows, []⟩ : MS) = ⟨ar, rows, atoms []⟩ from rfl, e0]
    simp only [Option.bind_some, run, step, if_true]
    rw [show (⟨(rows, atoms hd) :: ar, [], []⟩ : MS) = ⟨(rows, atoms hd) :: ar, [], atoms []⟩ from rfl, e1]
    simp only [Option.bind_some, run, step, if_true, if_neg (show ¬ ([125] : T) = [123] by decide), withLast, nz r1 h3, Bool.false_eq_true, if_false, List.nil_append]
    rw [show (⟨(rows, atoms hd ++ [.tup [.tup (atoms r1)]]) :: ar, [], []⟩ : MS) = ⟨(rows, atoms hd ++ [.tup [.tup (atoms r1)]]) :: ar, [], atoms []⟩ from rfl, e2]
    simp only [Option.bind_some, run, step, if_true, if_neg (show ¬ ([125] : T) = [123] by decide), withLast, nz r2 h5, Bool.false_eq_true, if_false, List.nil_append, List.append_assoc]
    rfl
/-- the rows of a line are read back -/
theorem run_rows (ar : List (List PV × List PV)) : ∀ (ds : List DRow) (done : List PV), (∀ d ∈ ds, d.ok = true) → ds ≠ [] → ∃ rs r, run ⟨ar, done, []⟩ (tok (textRows (ds.map DRow.pv))) = some ⟨ar, rs, r⟩ ∧ withLast rs r = done ++ ds.map DRow.pv
  | [], _, _, h => absurd rfl h
  | [d], done, h, _ => by
    obtain ⟨its, e1, e2, e3⟩ := run_row (h d List.mem_cons_self) ar done
    refine ⟨done, its, ?_, ?_⟩
    · rw [List.map_cons, List.map_nil, textRows, tok_row (h d List.mem_cons_self)]
      exact e3
    · simp [withLast, e2, e1]
  | d :: d' :: r, done, h, _ => by
    obtain ⟨its, e1, e2, e3⟩ := run_row (h d List.mem_cons_self) ar done
    obtain ⟨rs, rr, f1, f2⟩ := run_rows ar (d' :: r) (done ++ [d.pv]) (fun z hz => h z (List.mem_cons_of_mem _ hz)) (by simp)
    refine ⟨rs, rr, ?_, ?_⟩
    · have e : textRows ((d :: d' :: r).map DRow.pv) = textRow d.pv ++ 59 :: ([] ++ 32 :: textRows ((d' :: r).map DRow.pv)) := by
        rw [textRows_join, textRows_join]
        simp [joinT_two, List.append_assoc]
      rw [e, tok_sign (.inr (.inr rfl)), tok_space, tok_nil, List.nil_append, tok_row (h d List.mem_cons_self), run_append, e3]
      simp only [Option.bind_some, run, step, if_neg (show ¬ ([59] : T) = [123] by decide), if_neg (show ¬ ([59] : T) = [125] by decide), if_true]
      rw [← e1]
      exact f1
    · rw [f2]; simp
theorem readLine_rows {ds : List DRow} (h : ∀ d ∈ ds, d.ok = true) (hn : ds ≠ []) : readLine (textRows (ds.map DRow.pv)) = some (ds.map DRow.pv) := by
  obtain ⟨rs, r, e, q⟩ := run_rows [] ds [] h hn
  unfold readLine
  rw [e]
  simp [q]
end K2

-- K2P
namespace K2
/-! what is a program -/
def isMark : PV → Bool
  | .at (.int i) => decide (0 ≤ i) && decide (i ≤ 9)
  | _ => false
def isNumber : PV → Bool
  | .at (.int i) => decide (-1000000 ≤ i) && decide (i ≤ 1000000)
  | _ => false
def isBox : PV → Bool
  | .at (.str x) => decide (1 ≤ x.length) && decide (x.length ≤ 3) && x.all fun c => decide (97 ≤ c) && decide (c ≤ 122)
  | _ => false
def isThing (p : PV) : Bool := isNumber p || isBox p
def isRows : PV → Bool
  | .tup _ => true
  | _ => false
def isHand (others : List Int) : PV → Bool
  | .at (.int i) => others.contains i
  | _ => false
def fits (others : List Int) : PV → Kind → Bool
  | .at .non, k => mayAny (some k)
  | p, .hand => isHand others p
  | p, .anyHand => isHand others p
  | p, .mark => isMark p
  | p, .anyMark => isMark p
  | p, .number => isNumber p
  | p, .box => isBox p
  | p, .thing => isThing p
  | p, .rows => isRows p
def fitsAll (others : List Int) (its : List PV) (ks : List Kind) : Bool := (its.zip ks).all fun q => fits others q.1 q.2
def isRow (others : List Int) : PV → Bool
  | .tup (.at (.str x) :: its) => match form x with
    | some ks => decide (its.length = ks.length) && fitsAll others its ks
    | none => false
  | _ => false
def rowsIn : PV → List PV
  | .tup [.at (.str x), _, _, a, b] => if x = wCase then [a, b] else []
  | _ => []
def walk (others : List Int) : Nat → Nat → List PV → Option Nat
  | 0, _, _ => none
  | _ + 1, many, [] => some many
  | _ + 1, _, .at _ :: _ => none
  | f + 1, many, .tup rs :: rest => if 40 < many + rs.length then none else if rs.all (isRow others) then walk others f (many + rs.length) ((rs.flatMap rowsIn).reverse ++ rest) else none
def count (others : List Int) (script : PV) : Option Nat := walk others 100 0 [script]
def othersOf (n hand : Nat) : List Int := ((List.range n).filter (· ≠ hand)).map fun (k : Nat) => (k : Int)
def countAll (n : Nat) : Nat → List PV → Option Nat
  | _, [] => some 0
  | i, s :: r => (count (othersOf n i) s).bind fun a => (countAll n (i + 1) r).map fun b => a + b
def isProg : PV → Bool
  | .tup ss => decide (2 ≤ ss.length) && decide (ss.length ≤ 5) && (match countAll ss.length 0 ss with | some m => decide (m ≤ 40) | none => false)
  | _ => false

/-! ### the fuel is enough: more of it changes nothing -/
theorem rowsIn_len (p : PV) : (rowsIn p).length ≤ 2 := by
  unfold rowsIn
  split
  · split <;> simp
  · simp
theorem flat_len (rs : List PV) : (rs.flatMap rowsIn).length ≤ 2 * rs.length := by
  induction rs with
  | nil => simp
  | cons a r ih =>
    have := rowsIn_len a
    simp only [List.flatMap_cons, List.length_append, List.length_cons]
    omega
/-- the fall: 2 * (40 - many) + the number of what is pending -/
theorem walk_fuel (others : List Int) : ∀ (f f' many : Nat) (st : List PV), many ≤ 40 → 2 * (40 - many) + st.length < f → 2 * (40 - many) + st.length < f' → walk others f many st = walk others f' many st
  | 0, _, _, _, _, h, _ => absurd h (Nat.not_lt_zero _)
  | _ + 1, 0, _, _, _, _, h => absurd h (Nat.not_lt_zero _)
  | f + 1, f' + 1, many, [], _, _, _ => rfl
  | f + 1, f' + 1, many, .at _ :: _, _, _, _ => rfl
  | f + 1, f' + 1, many, .tup rs :: rest, hm, h, h' => by
    simp only [walk]
    split
    · rfl
    · rename_i hle
      split
      · have hl := flat_len rs
        simp only [List.length_cons] at h h'
        refine walk_fuel others f f' _ _ (by omega) ?_ ?_ <;> (simp only [List.length_append, List.length_reverse]; omega)
      · rfl

/-! ### rows as rows_text takes them -/
def Small (others : List Int) : Prop := ∀ i ∈ others, -1000000 ≤ i ∧ i ≤ 1000000
def FineA : Atom → Prop
  | .int i => -1000000 ≤ i ∧ i ≤ 1000000
  | _ => True
def Wf : Nat → PV → Prop
  | 0, _ => False
  | _ + 1, .at _ => False
  | d + 1, .tup rs => ∀ r ∈ rs, ∃ its, r = .tup its ∧ ∀ it ∈ its, (∃ a, it = .at a ∧ FineA a) ∨ Wf d it
theorem Wf.mono : ∀ {d d' : Nat} {p : PV}, Wf d p → d ≤ d' → Wf d' p
  | 0, _, _, h, _ => h.elim
  | _ + 1, 0, _, _, hd => absurd hd (by omega)
  | d + 1, _ + 1, .at _, h, _ => h.elim
  | d + 1, d' + 1, .tup rs, h, hd => fun r hr => by
    obtain ⟨its, e1, e2⟩ := h r hr
    refine ⟨its, e1, fun it hit => ?_⟩
    rcases e2 it hit with q | q
    · exact .inl q
    · exact .inr (Wf.mono q (by omega))
theorem form_rows {x : T} {ks : List Kind} (h : form x = some ks) (hk : Kind.rows ∈ ks) : x = wCase ∧ ks = [.box, .number, .rows, .rows] := by
  unfold form at h
  repeat' split at h
  all_goals first
    | (cases h; exfalso; revert hk; decide)
    | (cases h; exact ⟨by assumption, rfl⟩)
    | cases h
theorem isRow_shape {others : List Int} {p : PV} (h : isRow others p = true) : ∃ x its ks, p = .tup (.at (.str x) :: its) ∧ form x = some ks ∧ its.length = ks.length ∧ fitsAll others its ks = true := by
  unfold isRow at h
  split at h
  · rename_i x its
    split at h
    · rename_i ks hf
      simp only [Bool.and_eq_true, decide_eq_true_eq] at h
      exact ⟨x, its, ks, rfl, hf, h.1, h.2⟩
    · cases h
  · cases h
theorem fits_tup {others : List Int} {xs : List PV} {k : Kind} (h : fits others (.tup xs) k = true) : k = .rows := by
  cases k <;> first | rfl | (revert h; simp [fits, isHand, isMark, isNumber, isBox, isThing])
/-- a tuple among the items is one of the rows within -/
theorem isRow_in {others : List Int} {p : PV} (h : isRow others p = true) : ∃ its, p = .tup its ∧ ∀ it ∈ its, (∃ a, it = .at a) ∨ it ∈ rowsIn p := by
  obtain ⟨x, its, ks, rfl, hf, hl, hfit⟩ := isRow_shape h
  refine ⟨_, rfl, fun it hit => ?_⟩
  rcases List.mem_cons.mp hit with e | hit
  · exact .inl ⟨_, e⟩
  cases it with
  | «at» a => exact .inl ⟨a, rfl⟩
  | tup xs =>
    right
    obtain ⟨i, hi, e⟩ := List.getElem_of_mem hit
    have hz : (PV.tup xs, ks[i]'(by omega)) ∈ its.zip ks := by
      rw [List.mem_iff_getElem]
      exact ⟨i, by simp; omega, by simp [e]⟩
    have q := List.all_eq_true.mp hfit _ hz
    have hk : ks[i]'(by omega) = .rows := fits_tup q
    obtain ⟨ex, eks⟩ := form_rows hf (hk ▸ List.getElem_mem _)
    have e' : its[i]? = some (.tup xs) := by rw [List.getElem?_eq_getElem hi, e]
    have hk' : ks[i]? = some .rows := by rw [List.getElem?_eq_getElem (by omega), hk]
    clear e hk hz q hit hfit
    subst ex eks
    match its, hl, e' with
    | [a, b, c, d], _, e' =>
      simp only [rowsIn, if_true]
      match i, hk', e' with
      | 0, hk', _ => simp at hk'
      | 1, hk', _ => simp at hk'
      | 2, _, e' => simp at e'; subst e'; simp
      | 3, _, e' => simp at e'; subst e'; simp
theorem isRow_fine {others : List Int} (ho : Small others) {p : PV} (h : isRow others p = true) : ∃ its, p = .tup its ∧ ∀ it ∈ its, (∃ a, it = .at a ∧ FineA a) ∨ it ∈ rowsIn p := by
  obtain ⟨its', e, h1⟩ := isRow_in h
  obtain ⟨x, its, ks, rfl, hf, hl, hfit⟩ := isRow_shape h
  injection e with e
  subst e
  refine ⟨_, rfl, fun it hit => ?_⟩
  rcases h1 it hit with ⟨a, rfl⟩ | q
  · left
    refine ⟨a, rfl, ?_⟩
    rcases List.mem_cons.mp hit with e | hit
    · injection e with e; subst e; trivial
    · cases a with
      | non => trivial
      | str x => trivial
      | int j =>
        obtain ⟨i, hi, e⟩ := List.getElem_of_mem hit
        have hz : (PV.at (.int j), ks[i]'(by omega)) ∈ its.zip ks := by
          rw [List.mem_iff_getElem]
          exact ⟨i, by simp; omega, by simp [e]⟩
        have q : fits others (.at (.int j)) (ks[i]'(by omega)) = true := List.all_eq_true.mp hfit _ hz
        show -1000000 ≤ j ∧ j ≤ 1000000
        generalize ks[i]'(by omega) = k at q
        cases k <;> simp [fits, isHand, isMark, isNumber, isBox, isThing, isRows] at q <;> first | exact ho j q | omega
  · exact .inr q
theorem walk_wf {others : List Int} (ho : Small others) : ∀ (f many : Nat) (st : List PV) (m : Nat), walk others f many st = some m → ∀ p ∈ st, Wf (42 - many) p
  | 0, _, _, _, h, _, _ => by simp [walk] at h
  | f + 1, many, [], m, h, p, hp => by simp at hp
  | f + 1, many, .at _ :: _, m, h, p, hp => by simp [walk] at h
  | f + 1, many, .tup rs :: rest, m, h, p, hp => by
    simp only [walk] at h
    split at h
    · cases h
    · rename_i hle
      split at h
      · rename_i hall
        have ih := walk_wf ho f _ _ m h
        rcases List.mem_cons.mp hp with e | hp
        · subst e
          obtain ⟨d, hd⟩ : ∃ d, 42 - many = d + 1 := ⟨41 - many, by omega⟩
          rw [hd]
          show ∀ r ∈ rs, ∃ its, r = PV.tup its ∧ ∀ it ∈ its, (∃ a, it = .at a ∧ FineA a) ∨ Wf d it
          intro r hr
          obtain ⟨its, e1, e2⟩ := isRow_fine ho (List.all_eq_true.mp hall r hr)
          refine ⟨its, e1, fun it hit => ?_⟩
          rcases e2 it hit with q | q
          · exact .inl q
          · right
            have hmem : it ∈ (rs.flatMap rowsIn).reverse ++ rest := List.mem_append_left _ (List.mem_reverse.mpr (List.mem_flatMap.mpr ⟨r, hr, q⟩))
            have hpos : 0 < rs.length := List.length_pos_of_mem hr
            exact (ih it hmem).mono (by omega)
        · exact (ih p (List.mem_append_right _ hp)).mono (by omega)
      · cases h

/-! ### how long a text is -/
mutual
def cnt : PV → Nat
  | .at _ => 0
  | .tup rs => cntRows rs
def cntRow : PV → Nat
  | .at _ => 0
  | .tup its => 1 + cntItems its
def cntItems : List PV → Nat
  | [] => 0
  | p :: r => cnt p + cntItems r
def cntRows : List PV → Nat
  | [] => 0
  | p :: r => cntRow p + cntRows r
end
theorem cntItems_atoms {l : List PV} (h : ∀ it ∈ l, ∃ a, it = .at a) : cntItems l = 0 := by
  induction l with
  | nil => simp [cntItems]
  | cons p r ih =>
    obtain ⟨a, rfl⟩ := h p List.mem_cons_self
    simp [cntItems, cnt, ih fun it hit => h it (List.mem_cons_of_mem _ hit)]
def sumCnt (l : List PV) : Nat := (l.map cnt).sum
theorem cntItems_sum (l : List PV) : cntItems l = sumCnt l := by
  induction l with
  | nil => simp [cntItems, sumCnt]
  | cons p r ih => simp [cntItems, sumCnt, ih]
theorem cntRow_in {others : List Int} {p : PV} (h : isRow others p = true) : cntRow p = 1 + sumCnt (rowsIn p) := by
  obtain ⟨its, e, q⟩ := isRow_in h
  subst e
  simp only [cntRow]
  congr 1
  obtain ⟨x, jts, ks, e2, hf, hl, hfit⟩ := isRow_shape h
  cases e2
  by_cases hc : x = wCase
  · subst hc
    have hk : ks = [.box, .number, .rows, .rows] := by
      have : form wCase = some [.box, .number, .rows, .rows] := by decide
      rw [this] at hf; exact (Option.some.inj hf).symm
    subst hk
    match jts, hl with
    | [a, b, c, d], _ =>
      have ha : fits others a .box = true := by
        have := List.all_eq_true.mp hfit (a, .box) (by simp)
        exact this
      have hb : fits others b .number = true := by
        have := List.all_eq_true.mp hfit (b, .number) (by simp)
        exact this
      have na : cnt a = 0 := by
        cases a with
        | «at» _ => simp [cnt]
        | tup xs => have := fits_tup ha; cases this
      have nb : cnt b = 0 := by
        cases b with
        | «at» _ => simp [cnt]
        | tup xs => have := fits_tup hb; cases this
      simp [rowsIn, cntItems, cnt, sumCnt, na, nb]
  · have e0 : rowsIn (.tup (.at (.str x) :: jts)) = [] := by
      unfold rowsIn
      split
      · rename_i y a b c d e
        cases e
        rw [if_neg hc]
      · rfl
    rw [e0] at q ⊢
    have := cntItems_atoms (l := .at (.str x) :: jts) fun it hit => by
      rcases q it hit with z | z
      · exact z
      · simp at z
    rw [this]
    simp [sumCnt]
theorem sumCnt_append (a b : List PV) : sumCnt (a ++ b) = sumCnt a + sumCnt b := by simp [sumCnt]
theorem sumCnt_reverse (a : List PV) : sumCnt a.reverse = sumCnt a := by
  induction a with
  | nil => rfl
  | cons p r ih => rw [List.reverse_cons, sumCnt_append, ih]; simp [sumCnt]; omega
theorem cntRows_in {others : List Int} {rs : List PV} (h : rs.all (isRow others) = true) : cntRows rs = rs.length + sumCnt (rs.flatMap rowsIn) := by
  induction rs with
  | nil => simp [cntRows, sumCnt]
  | cons p r ih =>
    simp only [List.all_cons, Bool.and_eq_true] at h
    rw [cntRows, cntRow_in h.1, ih h.2, List.flatMap_cons, sumCnt_append, List.length_cons]
    omega
theorem walk_cnt (others : List Int) : ∀ (f many : Nat) (st : List PV) (m : Nat), walk others f many st = some m → m = many + sumCnt st
  | 0, _, _, _, h => by simp [walk] at h
  | f + 1, many, [], m, h => by simp [walk] at h; simp [sumCnt, h]
  | f + 1, many, .at _ :: _, m, h => by simp [walk] at h
  | f + 1, many, .tup rs :: rest, m, h => by
    simp only [walk] at h
    split at h
    · cases h
    · split at h
      · rename_i hall
        have ih := walk_cnt others f _ _ m h
        rw [ih, sumCnt_append, sumCnt_reverse, show (PV.tup rs :: rest) = [PV.tup rs] ++ rest from rfl, sumCnt_append]
        have e := cntRows_in hall
        have e2 : sumCnt [PV.tup rs] = cntRows rs := by simp [sumCnt, cnt]
        omega
      · cases h
theorem walk_le (others : List Int) : ∀ (f many : Nat) (st : List PV) (m : Nat), many ≤ 40 → walk others f many st = some m → m ≤ 40
  | 0, _, _, _, _, h => by simp [walk] at h
  | f + 1, many, [], m, hm, h => by simp [walk] at h; omega
  | f + 1, many, .at _ :: _, m, _, h => by simp [walk] at h
  | f + 1, many, .tup rs :: rest, m, _, h => by
    simp only [walk] at h
    split at h
    · cases h
    · rename_i hle
      split at h
      · exact walk_le others f _ _ m (by omega) h
      · cases h
end K2

-- K2Q
namespace K2
/-! ### lengths -/
theorem joinT_len (sep : T) : ∀ ws : List T, (joinT sep ws).length + sep.length ≥ (ws.map List.length).sum + ws.length * sep.length ∧ (joinT sep ws).length ≤ (ws.map List.length).sum + ws.length * sep.length
  | [] => by simp [joinT]
  | [x] => by simp [joinT]
  | x :: y :: r => by
    have ih := joinT_len sep (y :: r)
    have e : (x :: y :: r).length * sep.length = (y :: r).length * sep.length + sep.length := by simp [Nat.add_mul]
    rw [joinT_two, e, List.map_cons, List.sum_cons]
    simp only [List.length_append]
    omega
theorem toDigits_len {n : Nat} (h : n < 10 ^ 7) : (Nat.toDigits 10 n).length ≤ 7 := (Nat.length_toDigits_le_iff (by decide) (by decide)).mpr h
theorem numT_len {i : Int} (h1 : -1000000 ≤ i) (h2 : i ≤ 1000000) : (numT i).length ≤ 8 := by
  cases i with
  | ofNat n =>
    have := toDigits_len (n := n) (by have : (n : Int) ≤ 1000000 := h2; omega)
    simp only [numT, List.length_map]; omega
  | negSucc n =>
    have := toDigits_len (n := n + 1) (by have : -1000000 ≤ Int.negSucc n := h1; omega)
    simp only [numT, List.length_cons, List.length_map]; omega
theorem fits_len {others : List Int} (ho : Small others) {a : Atom} {k : Kind} (h : fits others (.at a) k = true) : a.text.length ≤ 8 := by
  cases a with
  | non => simp [Atom.text]
  | int i =>
    have q : -1000000 ≤ i ∧ i ≤ 1000000 := by
      cases k <;> simp [fits, isHand, isMark, isNumber, isBox, isThing, isRows] at h <;> first | exact ho i h | omega
    exact numT_len q.1 q.2
  | str x =>
    have q : x.length ≤ 3 := by
      cases k <;> simp [fits, isHand, isMark, isNumber, isBox, isThing, isRows] at h <;> omega
    simp only [Atom.text]; omega
theorem form_len {x : T} {ks : List Kind} (h : form x = some ks) : x.length ≤ 4 ∧ ks.length ≤ 4 ∧ ∃ c r, x = c :: r ∧ c ≠ 32 := by
  unfold form at h
  repeat' split at h
  all_goals first
    | (rename_i e; cases h; subst e; exact ⟨by decide, by decide, _, _, rfl, by decide⟩)
    | cases h
def B (p : PV) : Prop := ∀ rs, p = .tup rs → (textRows rs).length ≤ 60 * cntRows rs
theorem item_len {others : List Int} (ho : Small others) {p : PV} {k : Kind} (h : fits others p k = true) (hb : (∃ a, p = .at a) ∨ B p) : (textItem p).length ≤ 8 + 60 * cnt p := by
  cases p with
  | «at» a => have := fits_len ho h; simp only [textItem]; omega
  | tup rs =>
    rcases hb with ⟨a, e⟩ | hb
    · cases e
    · have := hb rs rfl
      simp only [textItem, cnt, List.length_cons, List.length_append, List.length_nil]; omega
theorem items_len {others : List Int} (ho : Small others) : ∀ (its : List PV) (ks : List Kind), its.length = ks.length → fitsAll others its ks = true → (∀ it ∈ its, (∃ a, it = .at a) ∨ B it) → ((its.map textItem).map List.length).sum ≤ 8 * its.length + 60 * cntItems its
  | [], _, _, _, _ => by simp
  | p :: r, [], h, _, _ => by simp at h
  | p :: r, k :: ks, h, hf, hb => by
    simp only [fitsAll, List.zip_cons_cons, List.all_cons, Bool.and_eq_true] at hf
    have h1 := item_len ho hf.1 (hb p List.mem_cons_self)
    have h2 := items_len ho r ks (by simpa using h) hf.2 fun it hit => hb it (List.mem_cons_of_mem _ hit)
    simp only [List.map_cons, List.sum_cons, List.length_cons, cntItems]
    omega
theorem row_len {others : List Int} (ho : Small others) {p : PV} (h : isRow others p = true) (hb : ∀ it ∈ rowsIn p, B it) : (textRow p).length + 2 ≤ 60 * cntRow p := by
  obtain ⟨its0, e0, hin⟩ := isRow_in h
  obtain ⟨x, its, ks, rfl, hf, hl, hfit⟩ := isRow_shape h
  cases e0
  obtain ⟨hx, hks, _⟩ := form_len hf
  have h2 := items_len ho its ks hl hfit fun it hit => by
    rcases hin it (List.mem_cons_of_mem _ hit) with q | q
    · exact .inl q
    · exact .inr (hb it q)
  have h3 := (joinT_len [32] ((PV.at (.str x) :: its).map textItem)).2
  simp only [textRow, cntRow]
  rw [textItems_join]
  simp only [List.map_cons, List.sum_cons, textItem, Atom.text, List.length_cons, List.length_map, List.length_nil, cntItems, cnt] at h3 ⊢
  omega
theorem rows_len {others : List Int} (ho : Small others) : ∀ rs : List PV, rs.all (isRow others) = true → (∀ r ∈ rs, ∀ it ∈ rowsIn r, B it) → ((rs.map textRow).map List.length).sum + 2 * rs.length ≤ 60 * cntRows rs
  | [], _, _ => by simp
  | p :: r, h, hb => by
    simp only [List.all_cons, Bool.and_eq_true] at h
    have h1 := row_len ho h.1 (hb p List.mem_cons_self)
    have h2 := rows_len ho r h.2 fun q hq => hb q (List.mem_cons_of_mem _ hq)
    simp only [List.map_cons, List.sum_cons, List.length_cons, cntRows]
    omega
theorem walk_B {others : List Int} (ho : Small others) : ∀ (f many : Nat) (st : List PV) (m : Nat), walk others f many st = some m → ∀ p ∈ st, B p
  | 0, _, _, _, h, _, _ => by simp [walk] at h
  | f + 1, many, [], m, h, p, hp => by simp at hp
  | f + 1, many, .at _ :: _, m, h, p, hp => by simp [walk] at h
  | f + 1, many, .tup rs :: rest, m, h, p, hp => by
    simp only [walk] at h
    split at h
    · cases h
    · split at h
      · rename_i hall
        have ih := walk_B ho f _ _ m h
        rcases List.mem_cons.mp hp with e | hp
        · subst e
          intro rs' e; cases e
          have h1 := rows_len ho rs hall fun r hr it hit => ih it (List.mem_append_left _ (List.mem_reverse.mpr (List.mem_flatMap.mpr ⟨r, hr, hit⟩)))
          have h2 := (joinT_len [59, 32] (rs.map textRow)).2
          rw [textRows_join]
          simp only [List.length_map, List.length_cons, List.length_nil] at h2
          omega
        · exact ih p (List.mem_append_right _ hp)
      · cases h
theorem others_small (n i : Nat) (hn : n ≤ 5) : Small (othersOf n i) := fun j hj => by
  simp only [othersOf, List.mem_map, List.mem_filter, List.mem_range] at hj
  obtain ⟨k, ⟨hk, _⟩, rfl⟩ := hj
  omega

/-! ### a program: its text, its scripts -/
def scriptText : PV → T
  | .tup rs => textRows rs
  | .at _ => []
def textProg : PV → T
  | .tup ss => ss.flatMap fun s => scriptText s ++ [10]
  | .at _ => []
structure ScriptOk (others : List Int) (s : PV) : Prop where
  wf : Wf 42 s
  len : (scriptText s).length ≤ 2400
  first : ∀ c r, scriptText s = c :: r → c ≠ 32
theorem count_ok {n i : Nat} (hn : n ≤ 5) {s : PV} {m : Nat} (h : count (othersOf n i) s = some m) : ScriptOk (othersOf n i) s ∧ m ≤ 40 := by
  have hw := walk_wf (others_small n i hn) _ _ _ _ h s List.mem_cons_self
  have hm := walk_le _ _ _ _ _ (by decide) h
  have hc := walk_cnt _ _ _ _ _ h
  have hB := walk_B (others_small n i hn) _ _ _ _ h s List.mem_cons_self
  refine ⟨⟨hw, ?_, ?_⟩, hm⟩
  · cases s with
    | «at» a => exact hw.elim
    | tup rs =>
      have := hB rs rfl
      simp only [sumCnt, List.map_cons, List.map_nil, List.sum_cons, List.sum_nil, cnt] at hc
      simp only [scriptText]; omega
  · intro c r e
    cases s with
    | «at» a => exact hw.elim
    | tup rs =>
      have hall : rs.all (isRow (othersOf n i)) = true := by
        simp only [count, walk] at h
        split at h
        · cases h
        · split at h
          · rename_i q; exact q
          · cases h
      cases rs with
      | nil => simp [scriptText, textRows] at e
      | cons p rs =>
        simp only [List.all_cons, Bool.and_eq_true] at hall
        obtain ⟨x, its, ks, rfl, hf, hl, _⟩ := isRow_shape hall.1
        obtain ⟨_, _, c0, r0, rfl, hc0⟩ := form_len hf
        have e1 : ∃ z, textRow (.tup (.at (.str (c0 :: r0)) :: its)) = c0 :: z := by
          simp only [textRow]
          cases its with
          | nil => exact ⟨r0, by simp [textItems, textItem, Atom.text]⟩
          | cons q its => exact ⟨_, by rw [textItems]; simp only [textItem, Atom.text, List.cons_append]; rfl⟩
        obtain ⟨z, e1⟩ := e1
        have e2 : ∃ z, textRows (.tup (.at (.str (c0 :: r0)) :: its) :: rs) = c0 :: z := by
          cases rs with
          | nil => exact ⟨z, by rw [textRows]; exact e1⟩
          | cons q rs => exact ⟨_, by rw [textRows]; simp only [e1, List.cons_append]; rfl⟩
        obtain ⟨z2, e2⟩ := e2
        rw [scriptText, e2] at e
        cases e
        exact hc0
theorem countAll_ok (n : Nat) (hn : n ≤ 5) : ∀ (ss : List PV) (i m : Nat), countAll n i ss = some m → ∀ (j : Nat) (s : PV), ss[j]? = some s → ScriptOk (othersOf n (i + j)) s
  | [], _, _, _, j, s, e => by simp at e
  | a :: r, i, m, h, j, s, e => by
    simp only [countAll] at h
    cases hc : count (othersOf n i) a with
    | none => rw [hc] at h; cases h
    | some k =>
      rw [hc] at h
      cases hr : countAll n (i + 1) r with
      | none => rw [hr] at h; cases h
      | some k' =>
        cases j with
        | zero => simp at e; subst e; exact (count_ok hn hc).1
        | succ j =>
          have := countAll_ok n hn r (i + 1) k' hr j s (by simpa using e)
          rw [show i + 1 + j = i + (j + 1) by omega] at this
          exact this
theorem isProg_shape {p : PV} (h : isProg p = true) : ∃ ss, p = .tup ss ∧ 2 ≤ ss.length ∧ ss.length ≤ 5 ∧ ∀ (j : Nat) (s : PV), ss[j]? = some s → ScriptOk (othersOf ss.length j) s := by
  unfold isProg at h
  split at h
  · rename_i ss
    simp only [Bool.and_eq_true, decide_eq_true_eq] at h
    split at h
    · rename_i m hm
      refine ⟨ss, rfl, h.1.1, h.1.2, fun j s e => ?_⟩
      have := countAll_ok _ h.1.2 ss 0 m hm j s e
      rwa [Nat.zero_add] at this
    · exact absurd h.2 (by decide)
  · cases h

/-! ### lines -/
def splitC (c : Nat) : T → List T
  | [] => [[]]
  | a :: r => if a = c then [] :: splitC c r else match splitC c r with
    | [] => [[a]]
    | h :: t => (a :: h) :: t
theorem splitC_ne (c : Nat) : ∀ x : T, splitC c x ≠ []
  | [] => by simp [splitC]
  | a :: r => by
    simp only [splitC]
    split
    · simp
    · split <;> simp
theorem splitC_free (c : Nat) : ∀ x : T, c ∉ x → splitC c x = [x]
  | [], _ => rfl
  | a :: r, h => by
    have h1 : a ≠ c := fun e => h (by simp [e])
    rw [splitC, if_neg h1, splitC_free c r fun e => h (List.mem_cons_of_mem _ e)]
theorem splitC_sep (c : Nat) (y : T) : ∀ x : T, c ∉ x → splitC c (x ++ c :: y) = x :: splitC c y
  | [], _ => by simp [splitC]
  | a :: r, h => by
    have h1 : a ≠ c := fun e => h (by simp [e])
    rw [List.cons_append, splitC, if_neg h1, splitC_sep c y r fun e => h (List.mem_cons_of_mem _ e)]
theorem splitC_join (c : Nat) : ∀ ps : List T, ps ≠ [] → (∀ p ∈ ps, c ∉ p) → splitC c (joinT [c] ps) = ps
  | [], h, _ => absurd rfl h
  | [p], _, h => splitC_free c p (h p List.mem_cons_self)
  | p :: q :: r, _, h => by
    rw [joinT_two, List.append_assoc]
    show splitC c (p ++ c :: joinT [c] (q :: r)) = _
    rw [splitC_sep c _ p (h p List.mem_cons_self), splitC_join c (q :: r) (by simp) fun z hz => h z (List.mem_cons_of_mem _ hz)]
theorem splitC_lines (c : Nat) : ∀ ls : List T, (∀ l ∈ ls, c ∉ l) → splitC c (ls.flatMap fun l => l ++ [c]) = ls ++ [[]]
  | [], _ => rfl
  | l :: r, h => by
    rw [List.flatMap_cons, List.append_assoc]
    show splitC c (l ++ c :: (r.flatMap fun l => l ++ [c])) = _
    rw [splitC_sep c _ l (h l List.mem_cons_self), splitC_lines c r fun z hz => h z (List.mem_cons_of_mem _ hz)]
    rfl
def linesOf (x : T) : List T := (splitC 10 x).dropLast
def readAll : List T → Option (List PV)
  | [] => some []
  | l :: r => (readLine l).bind fun a => (readAll r).map fun b => .tup a :: b
def readProg (x : T) : Option PV := (readAll (linesOf x)).bind fun ss => if isProg (.tup ss) = true ∧ textProg (.tup ss) = x then some (.tup ss) else none
theorem readProg_some {x : T} {p : PV} (h : readProg x = some p) : isProg p = true ∧ textProg p = x := by
  unfold readProg at h
  cases e : readAll (linesOf x) with
  | none => rw [e] at h; cases h
  | some ss =>
    rw [e] at h
    simp only [Option.bind_some] at h
    split at h
    · rename_i q; cases h; exact q
    · cases h

/-! ### no line feed in a drawn row -/
theorem clean_nl {x : T} (h : clean x = true) : (10 : Nat) ∉ x := fun hm => by
  simp only [clean, Bool.and_eq_true, List.all_eq_true] at h
  have := h.2 10 hm
  revert this; decide
theorem mem_joinT {sep : T} {c : Nat} : ∀ {ws : List T}, c ∈ joinT sep ws → c ∈ sep ∨ ∃ x ∈ ws, c ∈ x
  | [], h => by simp [joinT] at h
  | [x], h => .inr ⟨x, by simp, h⟩
  | x :: y :: r, h => by
    rw [joinT_two] at h
    rcases List.mem_append.mp h with h | h
    · rcases List.mem_append.mp h with h | h
      · exact .inr ⟨x, by simp, h⟩
      · exact .inl h
    · rcases mem_joinT h with q | ⟨z, hz, q⟩
      · exact .inl q
      · exact .inr ⟨z, List.mem_cons_of_mem _ hz, q⟩
theorem backs_nl {its : List Atom} (h : backs [] its = true) : (10 : Nat) ∉ textItems (atoms its) := fun hm => by
  rw [text_atoms] at hm
  rcases mem_joinT hm with q | ⟨x, hx, q⟩
  · revert q; decide
  · exact clean_nl (backs_clean its [] h x hx) q
theorem row_nl {d : DRow} (h : d.ok = true) : (10 : Nat) ∉ textRow d.pv := by
  cases d with
  | flat its =>
    simp only [DRow.ok, Bool.and_eq_true] at h
    simp only [DRow.pv, textRow]
    exact backs_nl h.2
  | cas hd r1 r2 =>
    simp only [DRow.ok, Bool.and_eq_true, Bool.not_eq_true', List.isEmpty_eq_false_iff] at h
    obtain ⟨⟨⟨⟨⟨h1, h2⟩, h3⟩, h4⟩, h5⟩, h6⟩ := h
    rw [textRow_cas hd r1 r2 h1]
    intro hm
    have n1 := backs_nl h2
    have n2 := backs_nl h4
    have n3 := backs_nl h6
    simp [n1, n2, n3] at hm
theorem rows_nl {ds : List DRow} (h : ∀ d ∈ ds, d.ok = true) : (10 : Nat) ∉ textRows (ds.map DRow.pv) := fun hm => by
  rw [textRows_join] at hm
  rcases mem_joinT hm with q | ⟨x, hx, q⟩
  · revert q; decide
  · rw [List.map_map] at hx
    obtain ⟨d, hd, rfl⟩ := List.mem_map.mp hx
    exact row_nl (h d hd) q
def dProg (dss : List (List DRow)) : PV := .tup (dss.map fun ds => .tup (ds.map DRow.pv))
structure Drawn (dss : List (List DRow)) : Prop where
  ok : ∀ ds ∈ dss, ds ≠ [] ∧ ∀ d ∈ ds, d.ok = true
  prog : isProg (dProg dss) = true
theorem textProg_d (dss : List (List DRow)) : textProg (dProg dss) = (dss.map fun ds => textRows (ds.map DRow.pv)).flatMap fun l => l ++ [10] := by
  simp [textProg, dProg, scriptText, List.flatMap_map]
theorem lines_d {dss : List (List DRow)} (h : ∀ ds ∈ dss, ds ≠ [] ∧ ∀ d ∈ ds, d.ok = true) : linesOf (textProg (dProg dss)) = dss.map fun ds => textRows (ds.map DRow.pv) := by
  unfold linesOf
  rw [textProg_d, splitC_lines]
  · simp
  · intro l hl
    obtain ⟨ds, hd, rfl⟩ := List.mem_map.mp hl
    exact rows_nl (h ds hd).2
theorem readAll_d : ∀ {dss : List (List DRow)}, (∀ ds ∈ dss, ds ≠ [] ∧ ∀ d ∈ ds, d.ok = true) → readAll (dss.map fun ds => textRows (ds.map DRow.pv)) = some (dss.map fun ds => .tup (ds.map DRow.pv))
  | [], _ => rfl
  | ds :: r, h => by
    obtain ⟨h1, h2⟩ := h ds List.mem_cons_self
    rw [List.map_cons, readAll, readLine_rows h2 h1, readAll_d fun z hz => h z (List.mem_cons_of_mem _ hz)]
    rfl
/-- what is written is read back -/
theorem readProg_d {dss : List (List DRow)} (h : Drawn dss) : readProg (textProg (dProg dss)) = some (dProg dss) := by
  unfold readProg
  rw [lines_d h.ok, readAll_d h.ok]
  simp only [Option.bind_some]
  rw [if_pos]
  · rfl
  · exact ⟨h.prog, rfl⟩

/-! ### what is no text -/
theorem readProg_empty : readProg [] = none := by rfl
theorem readProg_all : readProg [97, 108, 108, 10] = none := by
  unfold readProg
  have e : readAll (linesOf [97, 108, 108, 10]) = some [.tup [.tup [.at (.str wAll)]]] := by rfl
  rw [e]
  simp [isProg]
theorem textProg_end {p : PV} (h : textProg p ≠ []) : ∃ z, textProg p = z ++ [10] := by
  cases p with
  | «at» a => exact absurd rfl h
  | tup ss =>
    rcases List.eq_nil_or_concat ss with e | ⟨r, s, e⟩
    · subst e; exact absurd rfl h
    · subst e
      exact ⟨(r.flatMap fun s => scriptText s ++ [10]) ++ scriptText s, by simp [textProg]⟩
theorem readProg_cut {z : T} {c : Nat} (hc : c ≠ 10) : readProg (z ++ [c]) = none := by
  cases e : readProg (z ++ [c]) with
  | none => rfl
  | some p =>
    exfalso
    obtain ⟨_, h⟩ := readProg_some e
    obtain ⟨y, hy⟩ := textProg_end (p := p) (by rw [h]; simp)
    rw [hy] at h
    have := List.append_inj_right' h (by simp)
    simp at this
    exact hc this.symm
theorem isProg_first {p : PV} (h : isProg p = true) : ∀ r, textProg p ≠ 32 :: r := by
  intro r e
  obtain ⟨ss, rfl, h2, _, hs⟩ := isProg_shape h
  cases ss with
  | nil => simp at h2
  | cons s ss =>
    have q := (hs 0 s rfl).first
    simp only [textProg, List.flatMap_cons] at e
    cases hx : scriptText s with
    | nil => rw [hx] at e; simp at e
    | cons c x => rw [hx] at e; simp at e; exact q c x hx e.1
theorem readProg_blank (x : T) : readProg (32 :: x) = none := by
  cases e : readProg (32 :: x) with
  | none => rfl
  | some p =>
    exfalso
    obtain ⟨h1, h⟩ := readProg_some e
    exact isProg_first h1 x h
theorem countAll_none (n : Nat) : ∀ (ss : List PV) (i : Nat) (s : PV), (∀ others, count others s = none) → s ∈ ss → countAll n i ss = none
  | [], _, _, _, h => by simp at h
  | a :: r, i, s, hs, h => by
    rw [countAll]
    rcases List.mem_cons.mp h with e | h
    · subst e; rw [hs]; rfl
    · rw [countAll_none n r (i + 1) s hs h]
      cases count (othersOf n i) a <;> rfl
theorem isProg_none {ss : List PV} {s : PV} (hs : ∀ others, count others s = none) (h : s ∈ ss) : isProg (.tup ss) = false := by
  simp only [isProg]
  rw [countAll_none _ ss 0 s hs h]
  simp
theorem readAll_append : ∀ (xs ys : List T), readAll (xs ++ ys) = (readAll xs).bind fun a => (readAll ys).map fun b => a ++ b
  | [], ys => by simp [readAll]
  | x :: xs, ys => by
    rw [List.cons_append, readAll, readAll, readAll_append xs ys]
    cases readLine x with
    | none => rfl
    | some a =>
      cases readAll xs with
      | none => rfl
      | some b =>
        cases readAll ys <;> rfl
theorem readProg_more {ls : List T} (h : ∀ l ∈ ls, (10 : Nat) ∉ l) : readProg ((ls.flatMap fun l => l ++ [10]) ++ [120, 10]) = none := by
  have e0 : (ls.flatMap fun l => l ++ [10]) ++ [120, 10] = (ls ++ [[120]]).flatMap fun l => l ++ [10] := by simp
  unfold readProg
  have e1 : linesOf ((ls.flatMap fun l => l ++ [10]) ++ [120, 10]) = ls ++ [[120]] := by
    unfold linesOf
    rw [e0, splitC_lines]
    · simp
    · intro l hl
      rcases List.mem_append.mp hl with q | q
      · exact h l q
      · simp at q; subst q; decide
  rw [e1, readAll_append]
  cases readAll ls with
  | none => rfl
  | some a =>
    have e2 : readAll [[120]] = some [.tup [.tup [.at (.str [120])]]] := by rfl
    rw [e2]
    simp only [Option.map_some, Option.bind_some]
    rw [if_neg]
    intro q
    have := isProg_none (ss := a ++ [.tup [.tup [.at (.str [120])]]]) (s := .tup [.tup [.at (.str [120])]]) (fun others => by rfl) (by simp)
    rw [this] at q
    exact absurd q.1 (by decide)
end K2

-- K2R
namespace K2
/-! ### the rows that are drawn -/
def things : List Atom := [.int 1, .int 2, .int 7, .int (-3), .str [97], .str [98]]
def boxes : List Atom := [.str [97], .str [98]]
def tickets : List Atom := [.str [116], .str [117]]
def marks : List Atom := [.int 0, .int 1, .non]
def whences (others : List Int) : List Atom := .non :: others.map Atom.int
def flats (others : List Int) : List (List Atom) :=
  (others.flatMap fun t => [0, 1].flatMap fun m => things.map fun th => [.str wSend, .int t, .int m, th])
  ++ ((whences others).flatMap fun w => marks.flatMap fun m => boxes.map fun b => [.str wTake, w, m, b])
  ++ (tickets.flatMap fun t => (whences others).flatMap fun w => marks.flatMap fun m => boxes.map fun b => [.str wPost, t, w, m, b])
  ++ (tickets.map fun t => [.str wWait, t])
  ++ (boxes.flatMap fun b => things.flatMap fun x => things.map fun y => [.str wAdd, b, x, y])
  ++ [[.str wAll], [.str wTell, .int 5]]
  ++ (things.map fun t => [.str wTell, t])
def heads : List (List Atom) := boxes.flatMap fun b => [0, 1, 2].map fun (n : Int) => [.str wCase, b, .int n]
def goodFlat (others : List Int) (its : List Atom) : Bool :=
  !its.isEmpty && backs [] its && isRow others (.tup (atoms its)) && (rowsIn (.tup (atoms its))).isEmpty && decide (its.head? ≠ some (.str wCase))
theorem flats_good : ∀ n ∈ [2, 3, 4], ∀ me ∈ List.range n, (flats (othersOf n me)).all (goodFlat (othersOf n me)) = true := by decide +kernel
theorem heads_good : heads.all (fun h => !h.isEmpty && backs [] h && decide (h.head? = some (.str wCase))) = true := by decide +kernel
theorem flat_good {n me : Nat} (h2 : 2 ≤ n) (h4 : n ≤ 4) (hm : me < n) {its : List Atom} (h : its ∈ flats (othersOf n me)) : goodFlat (othersOf n me) its = true := by
  have hn : n ∈ [2, 3, 4] := by
    have : n = 2 ∨ n = 3 ∨ n = 4 := by omega
    rcases this with e | e | e <;> subst e <;> decide
  exact List.all_eq_true.mp (flats_good n hn me (List.mem_range.mpr hm)) its h
inductive Row (others : List Int) : DRow → Prop where
  | flat {its : List Atom} (h : its ∈ flats others) : Row others (.flat its)
  | cas {hd r1 r2 : List Atom} (h : hd ∈ heads) (h1 : r1 ∈ flats others) (h2 : r2 ∈ flats others) : Row others (.cas hd r1 r2)
theorem row_ok {n me : Nat} (h2 : 2 ≤ n) (h4 : n ≤ 4) (hm : me < n) {d : DRow} (h : Row (othersOf n me) d) : d.ok = true := by
  cases h with
  | flat h =>
    have := flat_good h2 h4 hm h
    simp only [goodFlat, Bool.and_eq_true] at this
    simp only [DRow.ok, Bool.and_eq_true]
    exact this.1.1.1
  | cas h h1 h2' =>
    have g1 := flat_good h2 h4 hm h1
    have g2 := flat_good h2 h4 hm h2'
    have g0 := List.all_eq_true.mp heads_good _ h
    simp only [goodFlat, Bool.and_eq_true] at g0 g1 g2
    simp only [DRow.ok, Bool.and_eq_true]
    exact ⟨⟨⟨⟨⟨g0.1.1, g0.1.2⟩, g1.1.1.1.1⟩, g1.1.1.1.2⟩, g2.1.1.1.1⟩, g2.1.1.1.2⟩
def DRow.isCase : DRow → Bool
  | .flat _ => false
  | .cas _ _ _ => true
def tell1 : DRow := .flat [.str wTell, .int 1]
def trim (ds : List DRow) : List DRow := (ds.take 4).filter (fun d => !d.isCase) ++ [tell1]
theorem tell1_in (others : List Int) : [.str wTell, .int 1] ∈ flats others := by
  unfold flats
  refine List.mem_append_right _ ?_
  decide
theorem trim_flat {others : List Int} {ds : List DRow} (h : ∀ d ∈ ds, Row others d) : ∀ d ∈ trim ds, ∃ its, d = .flat its ∧ its ∈ flats others := by
  intro d hd
  rcases List.mem_append.mp hd with q | q
  · obtain ⟨q1, q2⟩ := List.mem_filter.mp q
    cases h d (List.mem_of_mem_take q1) with
    | flat z => exact ⟨_, rfl, z⟩
    | cas _ _ _ => cases q2
  · simp at q; subst q; exact ⟨_, rfl, tell1_in others⟩
theorem trim_len (ds : List DRow) : 1 ≤ (trim ds).length ∧ (trim ds).length ≤ 5 := by
  have h := List.length_filter_le (fun d : DRow => !d.isCase) (ds.take 4)
  have h2 : (ds.take 4).length ≤ 4 := by rw [List.length_take]; omega
  simp only [trim, List.length_append, List.length_cons, List.length_nil]
  omega
theorem count_flat {n me : Nat} (h2 : 2 ≤ n) (h4 : n ≤ 4) (hm : me < n) {ds : List DRow} (hl : ds.length ≤ 40) (h : ∀ d ∈ ds, ∃ its, d = .flat its ∧ its ∈ flats (othersOf n me)) : count (othersOf n me) (.tup (ds.map DRow.pv)) = some ds.length := by
  have g : ∀ d ∈ ds, isRow (othersOf n me) d.pv = true ∧ rowsIn d.pv = [] := fun d hd => by
    obtain ⟨its, rfl, hi⟩ := h d hd
    have := flat_good h2 h4 hm hi
    simp only [goodFlat, Bool.and_eq_true, List.isEmpty_iff] at this
    exact ⟨this.1.1.2, this.1.2⟩
  have e1 : (ds.map DRow.pv).all (isRow (othersOf n me)) = true := by
    rw [List.all_map, List.all_eq_true]
    exact fun d hd => (g d hd).1
  have e2 : (ds.map DRow.pv).flatMap rowsIn = [] := by
    rw [List.flatMap_eq_nil_iff]
    intro p hp
    obtain ⟨d, hd, rfl⟩ := List.mem_map.mp hp
    exact (g d hd).2
  simp only [count, walk]
  rw [if_neg (by rw [List.length_map]; omega), if_pos e1, e2]
  simp [walk]
theorem countAll_flat {n : Nat} (h2 : 2 ≤ n) (h4 : n ≤ 4) : ∀ (dss : List (List DRow)) (i : Nat), i + dss.length = n → (∀ (j : Nat) (ds : List DRow), dss[j]? = some ds → ds.length ≤ 5 ∧ ∀ d ∈ ds, ∃ its, d = .flat its ∧ its ∈ flats (othersOf n (i + j))) →
    ∃ m, countAll n i (dss.map fun ds => .tup (ds.map DRow.pv)) = some m ∧ m ≤ 5 * dss.length
  | [], _, _, _ => ⟨0, rfl, by simp⟩
  | ds :: r, i, hi, h => by
    have h0 := h 0 ds rfl
    rw [Nat.add_zero] at h0
    simp only [List.length_cons] at hi
    obtain ⟨m, e, hm⟩ := countAll_flat h2 h4 r (i + 1) (by omega) fun j z hz => by
      have := h (j + 1) z (by simpa using hz)
      rw [show i + 1 + j = i + (j + 1) by omega]
      exact this
    refine ⟨ds.length + m, ?_, ?_⟩
    · rw [List.map_cons, countAll, count_flat h2 h4 (by omega) (by omega) h0.2, e]
      rfl
    · simp only [List.length_cons]; omega
theorem isProg_flat {dss : List (List DRow)} (h2 : 2 ≤ dss.length) (h4 : dss.length ≤ 4) (h : ∀ (j : Nat) (ds : List DRow), dss[j]? = some ds → ds.length ≤ 5 ∧ ∀ d ∈ ds, ∃ its, d = .flat its ∧ its ∈ flats (othersOf dss.length j)) : isProg (dProg dss) = true := by
  obtain ⟨m, e, hm⟩ := countAll_flat h2 h4 dss 0 (by omega) fun j ds hj => by
    rw [Nat.zero_add]; exact h j ds hj
  simp only [isProg, dProg, List.length_map]
  rw [e]
  simp only [Bool.and_eq_true, decide_eq_true_eq]
  omega
/-- scripts as they are drawn -/
def Scripts (n : Nat) (dss : List (List DRow)) : Prop := dss.length = n ∧ ∀ (j : Nat) (ds : List DRow), dss[j]? = some ds → ds ≠ [] ∧ ∀ d ∈ ds, Row (othersOf n j) d
def settle (dss : List (List DRow)) : List (List DRow) := if isProg (dProg dss) = true then dss else dss.map trim
theorem settle_ok {n : Nat} (h2 : 2 ≤ n) (h4 : n ≤ 4) {dss : List (List DRow)} (h : Scripts n dss) : Drawn (settle dss) := by
  obtain ⟨hn, hs⟩ := h
  subst hn
  have sub : ∀ ds ∈ dss, ∃ j, dss[j]? = some ds ∧ j < dss.length := fun ds hd => by
    obtain ⟨j, hj, e⟩ := List.getElem_of_mem hd
    exact ⟨j, by rw [List.getElem?_eq_getElem hj, e], hj⟩
  unfold settle
  split
  · rename_i hp
    refine ⟨fun ds hd => ?_, hp⟩
    obtain ⟨j, e, hj⟩ := sub ds hd
    obtain ⟨q1, q2⟩ := hs j ds e
    exact ⟨q1, fun d hd => row_ok h2 h4 hj (q2 d hd)⟩
  · refine ⟨fun ds' hd' => ?_, isProg_flat (by simpa using h2) (by simpa using h4) fun j ds' e => ?_⟩
    · obtain ⟨ds, hd, rfl⟩ := List.mem_map.mp hd'
      obtain ⟨j, e, hj⟩ := sub ds hd
      obtain ⟨q1, q2⟩ := hs j ds e
      refine ⟨fun z => ?_, fun d hd => ?_⟩
      · have := (trim_len ds).1; rw [z] at this; simp at this
      · obtain ⟨its, rfl, hi⟩ := trim_flat q2 d hd
        exact row_ok h2 h4 hj (.flat hi)
    · rw [List.getElem?_map] at e
      cases q : dss[j]? with
      | none => rw [q] at e; cases e
      | some ds =>
        rw [q] at e
        cases e
        rw [List.length_map]
        exact ⟨(trim_len ds).2, trim_flat (hs j ds q).2⟩
end K2

-- K2S
namespace K2
open PySem PySem.Builtin PySem.Builtin.Str PySem.NumText
/-! the model's texts and mine -/
def S (x : T) : Str := ⟨x.toArray⟩
def L (x : Str) : T := x.cps.toList
theorem L_S (x : T) : L (S x) = x := rfl
theorem S_L (x : Str) : S (L x) = x := by cases x; rfl
theorem L_inj {x y : Str} (h : L x = L y) : x = y := by rw [← S_L x, ← S_L y, h]
theorem S_inj {x y : T} (h : S x = S y) : x = y := by have := congrArg L h; exact this
theorem L_append (x y : Str) : L (x ++ y) = L x ++ L y := by
  show (x.cps ++ y.cps).toList = _
  simp [L]
theorem S_append (x y : T) : S x ++ S y = S (x ++ y) := L_inj (by rw [L_append]; rfl)
theorem len_L (x : Str) : x.length = (L x).length := by simp [L, Str.length]
theorem len_S (x : T) : (S x).length = x.length := by rw [len_L]; rfl
/-! joins -/
theorem L_join (sep : Str) : ∀ l : List Str, L (Str.join sep l) = joinT (L sep) (l.map L)
  | [] => rfl
  | [x] => rfl
  | x :: y :: r => by
    show L (x ++ sep ++ Str.join sep (y :: r)) = _
    rw [L_append, L_append, L_join sep (y :: r)]
    rfl
theorem txt_join (sep : T) (l : List T) : Txt.join (S sep) (l.map S) = S (joinT sep l) := by
  refine L_inj ?_
  show L (glued (S sep) (l.map S)) = _
  rw [StrLaws.glued_eq_join, L_join, List.map_map]
  have : l.map (L ∘ S) = l := by
    induction l with
    | nil => rfl
    | cons a r ih => rw [List.map_cons, ih]; rfl
  rw [this]
  rfl
/-! split by one sign -/
theorem txt_split (x : T) (c : Nat) : Txt.split (S x) (S [c]) = (splitC c x).map S := by
  have h1 := StrLaws.join_split (S x) ⟨#[c]⟩
  have h2 := StrLaws.split_free (S x) c
  have ne : Txt.split (S x) ⟨#[c]⟩ ≠ [] := by
    unfold Txt.split
    split
    · simp
    · split
      · simp
      · rw [StrLaws.partsBetween_eq]
        obtain ⟨p, r, e⟩ := StrLaws.partsFrom_ne (S x) (⟨#[c]⟩ : Str).length 0 (occurrences (S x) ⟨#[c]⟩ 0 (S x).length ((S x).length + 1))
        rw [e]; simp
  have h3 := congrArg L h1
  rw [L_join] at h3
  have h4 := splitC_join c ((Txt.split (S x) ⟨#[c]⟩).map L) (by simpa using ne) (fun p hp => by
    obtain ⟨q, hq, rfl⟩ := List.mem_map.mp hp
    exact h2 q hq)
  have e : joinT (L ⟨#[c]⟩) ((Txt.split (S x) ⟨#[c]⟩).map L) = joinT [c] ((Txt.split (S x) ⟨#[c]⟩).map L) := rfl
  rw [e] at h3
  rw [h3] at h4
  show Txt.split (S x) ⟨#[c]⟩ = _
  have h5 : splitC c x = (Txt.split (S x) ⟨#[c]⟩).map L := h4
  rw [h5, List.map_map]
  have : ∀ l : List Str, l.map (S ∘ L) = l := fun l => by
    induction l with
    | nil => rfl
    | cons a r ih => rw [List.map_cons, ih]; show S (L a) :: r = _; rw [S_L]
  rw [this]
/-! replace of one sign -/
theorem joinT_splitC (z : T) (c : Nat) : ∀ x : T, joinT z (splitC c x) = x.flatMap fun k => if k = c then z else [k]
  | [] => rfl
  | a :: r => by
    have ih := joinT_splitC z c r
    have hne := splitC_ne c r
    rw [List.flatMap_cons, ← ih]
    simp only [splitC]
    cases h : splitC c r with
    | nil => exact absurd h hne
    | cons p q =>
      by_cases ha : a = c
      · rw [if_pos ha, if_pos ha]
        rfl
      · rw [if_neg ha, if_neg ha]
        cases q with
        | nil => rfl
        | cons q1 q2 => rfl
theorem txt_replace (x z : T) (c : Nat) : Txt.replace (S x) (S [c]) (S z) = S (x.flatMap fun k => if k = c then z else [k]) := by
  have h := StrLaws.replace_one (S x) (S z) c
  have h1 : Txt.split (S x) ⟨#[c]⟩ = (splitC c x).map S := txt_split x c
  rw [h1] at h
  refine Eq.trans (show Txt.replace (S x) (S [c]) (S z) = Txt.replace (S x) ⟨#[c]⟩ (S z) from rfl) (Eq.trans h ?_)
  refine L_inj ?_
  rw [L_join, List.map_map]
  have : (splitC c x).map (L ∘ S) = splitC c x := by
    generalize splitC c x = l
    induction l with
    | nil => rfl
    | cons a r ih => rw [List.map_cons, ih]; rfl
  rw [this]
  exact joinT_splitC z c x
theorem ex_three (x : T) : ((x.flatMap fun k => if k = 123 then [32, 123, 32] else [k]).flatMap fun k => if k = 125 then [32, 125, 32] else [k]).flatMap (fun k => if k = 59 then [32, 59, 32] else [k]) = ex x := by
  unfold ex
  induction x with
  | nil => rfl
  | cons a r ih =>
    simp only [List.flatMap_cons, List.flatMap_append]
    rw [ih]
    congr 1
    by_cases h1 : a = 123
    · subst h1; rfl
    · by_cases h2 : a = 125
      · subst h2; rfl
      · by_cases h3 : a = 59
        · subst h3; rfl
        · simp [h1, h2, h3, ex1]
/-! words -/
theorem take_drop_snoc {l : T} {b i c : Nat} (hb : b ≤ i) (hc : l[i]? = some c) : (l.drop b).take (i + 1 - b) = (l.drop b).take (i - b) ++ [c] := by
  rw [show i + 1 - b = (i - b) + 1 by omega, List.take_add_one]
  congr 1
  rw [List.getElem?_drop, show b + (i - b) = i by omega, hc]
  rfl
/-- what the walk has at place i -/
def SwIs (x : T) (i : Nat) (st : StrLaws.SwSt) : Prop :=
  st.fst = none ∧ ∃ cur : T, (match st.snd.snd with | some b => b < i ∧ cur = (x.drop b).take (i - b) ∧ cur ≠ [] | none => cur = []) ∧
    wg sp [] x = (st.snd.fst.toList.map fun p => (x.drop p.1).take (p.2 - p.1)) ++ wg sp cur (x.drop i)
theorem sw_is (x : T) (limit : Nat) (hl : x.length < limit) : ∀ (m i : Nat) (st : StrLaws.SwSt), i + m = x.length → st.snd.fst.size ≤ i → SwIs x i st →
    SwIs x x.length (Id.run (forIn (List.range' i m) st (StrLaws.swBody (S x) limit)))
  | 0, i, st, hm, _, h => by
    have : i = x.length := by omega
    subst this
    exact h
  | m + 1, i, (r, words, start), hm, hsz, h => by
    rw [List.range'_succ, List.forIn_cons]
    obtain ⟨h1, cur, h2, h3⟩ := h
    dsimp only at h1 h2 h3 hsz
    subst h1
    have hi : i < x.length := by omega
    have hget : (S x).cps.getD i 0 = x[i] := by simp [S, hi]
    have hdrop : x.drop i = x[i] :: x.drop (i + 1) := by rw [List.drop_eq_getElem_cons hi]
    have hws : ¬ ((words.size == limit) = true) := by simp; omega
    have go : ∀ st', st'.snd.fst.size ≤ i + 1 → SwIs x (i + 1) st' → SwIs x x.length (Id.run (forIn (List.range' (i + 1) m) st' (StrLaws.swBody (S x) limit))) :=
      fun st' hs' hI => sw_is x limit hl m (i + 1) st' (by omega) hs' hI
    unfold StrLaws.swBody
    dsimp only
    rw [if_neg hws, hget]
    rw [hdrop] at h3
    cases start with
    | none =>
      have hc : cur = [] := h2
      subst hc
      cases hs : Unicode.isSpace x[i] with
      | true =>
        refine go (none, words, none) (by simpa using Nat.le_succ_of_le hsz) ⟨rfl, [], rfl, ?_⟩
        rw [h3]
        simp only [wg, sp, hs, if_true, List.isEmpty_nil, List.nil_append]
      | false =>
        refine go (none, words, some i) (by simpa using Nat.le_succ_of_le hsz) ⟨rfl, [x[i]], ⟨by omega, ?_, by simp⟩, ?_⟩
        · rw [show i + 1 - i = 1 by omega, hdrop]; rfl
        · rw [h3]
          simp only [wg, sp, hs, Bool.false_eq_true, if_false, List.nil_append]
    | some b =>
      obtain ⟨hb, hc, hne⟩ := h2
      cases hs : Unicode.isSpace x[i] with
      | true =>
        refine go (none, words.push (b, i), none) (by simp; omega) ⟨rfl, [], rfl, ?_⟩
        rw [h3]
        have hemp : cur.isEmpty = false := by simpa using hne
        simp only [wg, sp, hs, if_true, hemp, Bool.false_eq_true, if_false, Array.toList_push, List.map_append, List.map_cons, List.map_nil, List.append_assoc]
        rw [hc]
      | false =>
        refine go (none, words, some b) (by simpa using Nat.le_succ_of_le hsz) ⟨rfl, cur ++ [x[i]], ⟨by omega, ?_, by simp⟩, ?_⟩
        · rw [take_drop_snoc (c := x[i]) (by omega) (by simp [hi]), hc]
        · rw [h3]
          simp only [wg, sp, hs, Bool.false_eq_true, if_false]
theorem sub_S (x : T) (i j : Nat) : strSub (S x) i j = S ((x.drop i).take (j - i)) := L_inj (StrLaws.strSub_toList (S x) i j)
theorem words_of (x : T) : wordsOf (S x) = (wg sp [] x).map S := by
  have h := sw_is x (x.length + 1) (by omega) x.length 0 (none, #[], none) (by omega) (by simp) ⟨rfl, [], rfl, by simp⟩
  have e := StrLaws.sw_eq (S x) (x.length + 1)
  unfold wordsOf
  rw [len_S] at e ⊢
  rw [e]
  unfold StrLaws.swEnd
  generalize hst : Id.run (forIn (List.range' 0 x.length) ((none, #[], none) : StrLaws.SwSt) (StrLaws.swBody (S x) (x.length + 1))) = st at h
  obtain ⟨r, words, start⟩ := st
  obtain ⟨h1, cur, h2, h3⟩ := h
  dsimp only at h1 h2 h3 ⊢
  subst h1
  rw [h3, List.drop_length]
  have e1 : ∀ l : List (Nat × Nat), l.map (fun (p : Nat × Nat) => strSub (S x) p.1 p.2) = (l.map fun p => (x.drop p.1).take (p.2 - p.1)).map S := fun l => by
    rw [List.map_map]
    congr 1
    funext p
    exact sub_S x p.1 p.2
  cases start with
  | none =>
    have hc : cur = [] := h2
    subst hc
    simp only [wg, List.isEmpty_nil, if_true, List.append_nil]
    exact e1 words.toList
  | some b =>
    obtain ⟨hb, hc, hne⟩ := h2
    have hemp : cur.isEmpty = false := by simpa using hne
    simp only [wg, hemp, Bool.false_eq_true, if_false, Array.toList_push]
    rw [show (words.toList ++ [(b, (S x).length)]) = words.toList ++ [(b, x.length)] by rw [len_S]]
    refine Eq.trans (e1 _) ?_
    rw [List.map_append, List.map_append, List.map_append]
    congr 1
    simp only [List.map_cons, List.map_nil]
    rw [hc]
theorem txt_words (x : T) : Txt.words (S x) = (wg sp [] x).map S := by
  unfold Txt.words
  split
  · rename_i h
    have := words_of x
    rw [← this]
    unfold wordsOf
    rw [eq_of_beq h]
    simp only [List.map_cons, List.map_nil]
    rw [StrLaws.sub_whole]
  · exact words_of x
/-! numbers -/
theorem natOf_eq (x : T) : natOf x = digitsVal x := by
  unfold natOf digitsVal
  congr 1
  funext a c
  omega
theorem int_text {x : T} (h : isNumT x = true) : intText? (S x) = some (intOf x) ∧ (S x).length ≤ 640 := by
  simp only [isNumT, Bool.and_eq_true, decide_eq_true_eq, List.all_eq_true] at h
  obtain ⟨⟨h1, h2⟩, h3⟩ := h
  have hd : AllDigits (digs x) := fun c hc => by
    have := h3 c hc
    simp only [isDig, Bool.and_eq_true, decide_eq_true_eq] at this
    exact this
  have ne : digs x ≠ [] := by intro e; rw [e] at h1; simp at h1
  have hlen : x.length ≤ 8 := by
    unfold digs at h2
    split at h2
    · simp only [List.length_cons]; omega
    · omega
  refine ⟨?_, by rw [len_S]; omega⟩
  by_cases hx : ∃ r, x = 45 :: r
  · obtain ⟨r, rfl⟩ := hx
    rw [intText_neg (x := S (45 :: r)) (cs := r) rfl hd ne (by rw [len_S]; omega)]
    simp only [intOf, natOf_eq]
  · have e : digs x = x := by
      unfold digs
      split
      · rename_i r; exact absurd ⟨r, rfl⟩ hx
      · rfl
    rw [e] at hd ne
    rw [intText_digits (x := S x) hd ne (by rw [len_S]; omega)]
    unfold intOf
    split
    · rename_i r; exact absurd ⟨r, rfl⟩ hx
    · rw [natOf_eq]; rfl
theorem starts_minus (x : T) : Txt.startswith (S x) (S [45]) = (match x with | 45 :: _ => true | _ => false) := by
  unfold Txt.startswith
  rw [StrLaws.subAt_eq]
  simp only [len_S]
  show (decide (0 + 1 ≤ x.length) && ((x.drop 0).take 1 == [45])) = _
  match x with
  | [] => rfl
  | a :: r =>
    by_cases h : a = 45
    · subst h; simp
    · split
      · rename_i e; cases e; exact absurd rfl h
      · simp [h]
end K2

-- K2T
namespace K2
theorem wg_mem {s : Nat → Bool} : ∀ (x cur : T) {w : T}, w ∈ wg s cur x → w.length ≤ cur.length + x.length
  | [], cur, w, h => by
    unfold wg at h
    split at h
    · cases h
    · simp at h; subst h; simp
  | c :: r, cur, w, h => by
    unfold wg at h
    split at h
    · rcases List.mem_append.mp h with h | h
      · split at h
        · cases h
        · simp at h; subst h; simp
      · have := wg_mem r [] h; simp at this ⊢; omega
    · have := wg_mem r (cur ++ [c]) h; simp at this ⊢; omega
theorem wg_len {s : Nat → Bool} : ∀ (x cur : T), (wg s cur x).length ≤ x.length + 1
  | [], cur => by unfold wg; split <;> simp
  | c :: r, cur => by
    unfold wg
    split
    · rw [List.length_append]
      have := wg_len (s := s) r []
      split <;> simp <;> omega
    · have := wg_len (s := s) r (cur ++ [c]); simp; omega
theorem ex_len : ∀ x : T, (ex x).length ≤ 3 * x.length
  | [] => by simp [ex]
  | c :: r => by
    rw [ex_cons, List.length_append]
    have := ex_len r
    have h1 : (ex1 c).length ≤ 3 := by unfold ex1; split <;> simp
    simp; omega
theorem tok_mem {x w : T} (h : w ∈ tok x) : w.length ≤ 3 * x.length := by
  have h1 := wg_mem _ _ h
  have := ex_len x
  simp at h1; omega
theorem tok_len (x : T) : (tok x).length ≤ 3 * x.length + 1 := by
  have h1 := wg_len (s := sp) (ex x) []
  have := ex_len x
  unfold tok; omega
theorem run_take {s : MS} {ws : List T} {i : Nat} (hi : i < ws.length) {ms : MS} (h : run s (ws.take i) = some ms) : run s (ws.take (i + 1)) = step ms ws[i] := by
  rw [List.take_add_one, List.getElem?_eq_getElem hi, Option.toList_some, run_append, h]
  show (step ms ws[i]).bind (fun s' => some s') = _
  cases step ms ws[i] <;> rfl
theorem run_none {s : MS} {ws : List T} {i : Nat} (h : run s (ws.take i) = none) : run s ws = none := by
  rw [← List.take_append_drop i ws, run_append, h]; rfl
theorem splitC_mem {c : Nat} : ∀ (x : T) {l : T}, l ∈ splitC c x → l.length ≤ x.length
  | [], l, h => by simp [splitC] at h; subst h; simp
  | a :: r, l, h => by
    unfold splitC at h
    split at h
    · rcases List.mem_cons.mp h with e | h
      · subst e; simp
      · have := splitC_mem r h; simp; omega
    · split at h
      · simp at h; subst h; simp
      · rename_i hd tl e
        have h1 : ∀ y ∈ hd :: tl, y.length ≤ r.length := fun y hy => splitC_mem r (by rw [e]; exact hy)
        rcases List.mem_cons.mp h with e2 | h
        · subst e2; have := h1 hd (.head _); simp; omega
        · have := h1 l (.tail _ h); simp; omega
theorem lines_mem {x l : T} (h : l ∈ linesOf x) : l.length ≤ x.length := splitC_mem x (by unfold linesOf at h; rw [List.dropLast_eq_take] at h; exact List.mem_of_mem_take h)
theorem readAll_none {l : T} (hl : readLine l = none) : ∀ {ls : List T}, l ∈ ls → readAll ls = none
  | [], h => by cases h
  | a :: r, h => by
    unfold readAll
    rcases List.mem_cons.mp h with e | h
    · subst e; rw [hl]; rfl
    · rw [readAll_none hl h]
      cases readLine a <;> rfl
theorem readAll_step {ls : List T} {i : Nat} (hi : i < ls.length) {ss : List PV} (h : readAll (ls.take i) = some ss) {rs : List PV} (hl : readLine ls[i] = some rs) : readAll (ls.take (i + 1)) = some (ss ++ [.tup rs]) := by
  rw [List.take_add_one, List.getElem?_eq_getElem hi, Option.toList_some, readAll_append, h]
  unfold readAll
  rw [hl]; rfl
end K2

-- K2U
set_option linter.all false
set_option maxRecDepth 100000
/-! the texts that the law spoils -/
namespace K2
theorem prog_len {p : PV} (h : isProg p = true) : (textProg p).length ≤ 12100 := by
  obtain ⟨ss, rfl, h2, h5, hs⟩ := isProg_shape h
  have bound : ∀ l : List PV, (∀ s ∈ l, (scriptText s).length ≤ 2400) → (l.flatMap fun s => scriptText s ++ [10]).length ≤ 2401 * l.length := by
    intro l
    induction l with
    | nil => intro _; simp
    | cons s r ih =>
      intro h
      have := ih fun s hs => h s (.tail _ hs)
      have h1 := h s (.head _)
      simp only [List.flatMap_cons, List.length_append, List.length_cons, List.length_nil]
      omega
  have := bound ss fun s hs' => by
    obtain ⟨j, hj, e⟩ := List.getElem_of_mem hs'
    exact (hs j s (by rw [List.getElem?_eq_getElem hj, e])).len
  show (ss.flatMap fun s => scriptText s ++ [10]).length ≤ 12100
  omega
theorem rows_some {ds : List DRow} (h : ∀ d ∈ ds, d.ok = true) (hn : ds ≠ []) : textRows (ds.map DRow.pv) ≠ [] := fun e => by
  have := readLine_rows h hn
  rw [e] at this
  have z : readLine [] = some (ds.map DRow.pv) := this
  have z2 : readLine [] = none ∨ readLine [] = some [] := by first | exact .inl rfl | exact .inr rfl
  rcases z2 with q | q
  · rw [q] at z; cases z
  · rw [q] at z
    cases ds with
    | nil => exact hn rfl
    | cons a r => simp at z
theorem flat_snoc (r : List T) (l : T) : ((r ++ [l]).flatMap fun l => l ++ [10]) = ((r.flatMap fun l => l ++ [10]) ++ l) ++ [10] := by simp
theorem dss_some {dss : List (List DRow)} (h : Drawn dss) : dss ≠ [] := fun e => by
  subst e
  have := h.prog
  revert this; decide
theorem readProg_init {dss : List (List DRow)} (h : Drawn dss) : readProg (textProg (dProg dss)).dropLast = none := by
  rcases List.eq_nil_or_concat dss with e | ⟨r, ds, e⟩
  · exact absurd e (dss_some h)
  · obtain ⟨q1, q2⟩ := h.ok ds (by rw [e]; simp)
    have e2 : textProg (dProg dss) = (((r.map fun ds => textRows (ds.map DRow.pv)).flatMap fun l => l ++ [10]) ++ textRows (ds.map DRow.pv)) ++ [10] := by
      rw [textProg_d, e, List.concat_eq_append, List.map_append]; exact flat_snoc _ _
    rw [e2, List.dropLast_concat]
    rcases List.eq_nil_or_concat (textRows (ds.map DRow.pv)) with z | ⟨z, c, z2⟩
    · exact absurd z (rows_some q2 q1)
    · have nl := rows_nl q2
      rw [z2, List.concat_eq_append, ← List.append_assoc]
      refine readProg_cut fun hc => nl ?_
      rw [z2, hc]; simp
theorem readProg_x {dss : List (List DRow)} (h : Drawn dss) : readProg (textProg (dProg dss) ++ [120, 10]) = none := by
  rw [textProg_d]
  refine readProg_more fun l hl => ?_
  obtain ⟨ds, hd, rfl⟩ := List.mem_map.mp hl
  exact rows_nl (h.ok ds hd).2
theorem sum_flat (ls : List T) : (ls.flatMap fun l => l ++ [10]).length = (ls.map List.length).sum + ls.length := by
  induction ls with
  | nil => rfl
  | cons a r ih => simp only [List.flatMap_cons, List.length_append, List.length_cons, List.length_nil, List.map_cons, List.sum_cons, ih]; omega
theorem sum_lines {dss : List (List DRow)} (h : Drawn dss) : ((linesOf (textProg (dProg dss))).map List.length).sum + (linesOf (textProg (dProg dss))).length = (textProg (dProg dss)).length := by
  rw [lines_d h.ok, ← sum_flat, ← textProg_d]
end K2

-- R1
set_option linter.all false
set_option maxRecDepth 100000
namespace L2
open PySem PySem.Spec PyProof.Rows K2
/-! rules of my own: texts, tests, equality -/
section
variable {X : Cx}
theorem strs_of : ∀ {ts : List Str} {us : List Value}, Vals (ts.map V.str) us → ∃ l : List (Str × Tok), us = strValues l ∧ l.map (·.1) = ts
  | [], us, h => by
    cases Vals.zero h
    exact ⟨[], rfl, rfl⟩
  | t :: ts, us, h => by
    rw [List.map_cons] at h
    cases h with
    | cons r rr =>
      obtain ⟨k, rfl⟩ := r
      obtain ⟨l, rfl, e⟩ := strs_of rr
      exact ⟨(t, k) :: l, rfl, by rw [List.map_cons, e]⟩
theorem vals_strs : ∀ (l : List (Str × Tok)), Vals ((l.map (·.1)).map V.str) (strValues l)
  | [] => .nil
  | p :: r => .cons ⟨p.2, rfl⟩ (vals_strs r)
/-- sep.join(list of texts) -/
def rJoin (K : PySem.W.Frag) : V → List V → Hp → VK → Prop := fun x vs H Q => ∃ (sep : T) (D : Addr) (ts : List T), x = .str (S sep) ∧ vs = [.ref D] ∧ SqL K H D (ts.map fun t => V.str (S t)) ∧
  (ts.map List.length).sum + ts.length * sep.length ≤ 1000000 ∧ Q (.str (S (joinT sep ts))) H
theorem mt_join : MtR X "str.join" (rJoin X.K) := by
  intro pins s σ H x vs v us Q I rx rv h
  obtain ⟨sep, D, ts, rfl, rfl, hq, hz, q⟩ := h
  obtain ⟨t, rfl⟩ := rx
  obtain ⟨u, rfl, ru⟩ := rv.one
  cases ru
  obtain ⟨its, r, pl, _⟩ := I.list hq
  have r' : Vals ((ts.map S).map V.str) its := by rw [List.map_map]; exact r
  obtain ⟨l, rfl, e⟩ := strs_of r'
  have hok : JoinOk (S sep) (ts.map S) = true := by
    unfold JoinOk Builtin.Str.tooLong
    rw [StrLaws.joinTotal]
    have e1 : ((ts.map S).map (·.length)).sum = (ts.map List.length).sum := by
      rw [List.map_map]
      exact congrArg List.sum (List.map_congr_left fun a _ => len_S a)
    rw [e1, List.length_map, len_S]
    have : (sizeLine : Nat) = 16777216 := by rw [sizeLine_eq]
    simp
    try omega
  refine SC.join pl.isList e hok fun t' k => ⟨.str _, H, I.tok k, ⟨t', rfl⟩, ?_⟩
  rw [txt_join]
  exact q
/-- x.split() -/
def rWords : V → List V → Hp → VK → Prop := fun x vs H Q => ∃ t : T, x = .str (S t) ∧ vs = [] ∧ t.length ≤ 1000000 ∧ ∀ p, H p = none → Q (.ref p) (upd H p (.lst ((wg sp [] t).map fun y => V.str (S y))))
theorem laid_strs {pins : List (Addr × Obj)} {σ : St} {H : Hp} {s : Shared} {ts : List T} (I : Inv X pins σ H s) (l : List (Str × Tok)) (tk : Nat) (e : l.map (·.1) = ts.map S) (hz : ts.length ≤ sizeLine) :
    Inv X pins σ (upd H s.heap.objs.size (.lst (ts.map fun y => V.str (S y)))) { s with heap := s.heap.push { cls := .type "list", data := .seq (strValues l).toArray }, toks := tk } := by
  refine I.laid (fun b u q => Heap.get?_push_of_some _ q) (Nat.le_refl _) ⟨by rw [List.length_map]; exact hz, strValues l, 0, ?_, Heap.get?_push_size _ rfl⟩
  have := vals_strs l
  rw [e, List.map_map] at this
  exact this
theorem mt_words : MtR X "str.split" rWords := by
  intro pins s σ H x vs v us Q I rx rv h
  obtain ⟨t, rfl, rfl, hz, q⟩ := h
  obtain ⟨k, rfl⟩ := rx
  cases rv.zero
  have e0 := txt_words t
  have hn : (Builtin.Str.spaceWords (S t) ((S t).length + 1)).length ≤ t.length + 1 := by
    have e1 := (StrLaws.sw_weight (S t)).1
    have e2 := StrLaws.len_le_wsum (Builtin.Str.spaceWords (S t) ((S t).length + 1))
    rw [len_S] at e1 e2 ⊢
    omega
  have big : (sizeLine : Nat) = 16777216 := by rw [sizeLine_eq]
  have hwl : (wg sp [] t).length ≤ sizeLine := by
    have e1 := words_of t
    have e2 := congrArg List.length e1
    unfold wordsOf at e2
    rw [List.length_map, List.length_map] at e2
    omega
  refine call_meets F.slot_str_split (typeIs_str _ _ _) F.entry_str_split (F.args_str_split_1 _) (meets_str_split_space (S t) k (by rw [len_S]; omega) (by omega)) ?_
  have fin : ∀ (l : List (Str × Tok)) (tk : Nat), l.map (·.1) = Txt.words (S t) → EP X pins σ Q (.ref s.heap.objs.size) { s with heap := s.heap.push { cls := .type "list", data := .seq (strValues l).toArray }, toks := tk } := fun l tk e =>
    ⟨.ref s.heap.objs.size, _, laid_strs I l tk (e.trans e0) hwl, rfl, q _ I.fresh⟩
  cases hw : Builtin.Str.spaceWords (S t) ((S t).length + 1) == [(0, (S t).length)]
  · simp only [Bool.false_eq_true, if_false]
    rw [strsFrom_eq]
    refine fin (numbered s.toks (wordsOf (S t))) _ ((numbered_texts _ _).trans ?_)
    unfold Txt.words
    rw [if_neg (ne_true_of_eq_false hw)]
  · simp only [if_true]
    refine fin [(S t, k)] s.toks ?_
    unfold Txt.words
    rw [if_pos hw]
    rfl
/-- x.split(c), c one sign -/
def rSplit : V → List V → Hp → VK → Prop := fun x vs H Q => ∃ (t : T) (c : Nat), x = .str (S t) ∧ vs = [.str (S [c])] ∧ t.length ≤ 1000000 ∧ ∀ p, H p = none → Q (.ref p) (upd H p (.lst ((splitC c t).map fun y => V.str (S y))))
theorem splitC_len (c : Nat) : ∀ x : T, (splitC c x).length ≤ x.length + 1
  | [] => by simp [splitC]
  | a :: r => by
    have ih := splitC_len c r
    simp only [splitC]
    split
    · simp only [List.length_cons]; omega
    · split
      · simp
      · rename_i h t e
        rw [e] at ih
        simp only [List.length_cons] at ih ⊢
        omega
theorem mt_split : MtR X "str.split" rSplit := by
  intro pins s σ H x vs v us Q I rx rv h
  obtain ⟨t, c, rfl, rfl, hz, q⟩ := h
  obtain ⟨k, rfl⟩ := rx
  obtain ⟨u, rfl, ru⟩ := rv.one
  obtain ⟨k2, rfl⟩ := ru
  have e0 := txt_split t c
  have big : (sizeLine : Nat) = 16777216 := by rw [sizeLine_eq]
  have hwl : (splitC c t).length ≤ sizeLine := by have := splitC_len c t; omega
  have fin : ∀ (l : List (Str × Tok)) (tk : Nat), l.map (·.1) = Txt.split (S t) (S [c]) → EP X pins σ Q (.ref s.heap.objs.size) { s with heap := s.heap.push { cls := .type "list", data := .seq (strValues l).toArray }, toks := tk } := fun l tk e =>
    ⟨.ref s.heap.objs.size, _, laid_strs I l tk (e.trans e0) hwl, rfl, q _ I.fresh⟩
  have hy : ((S [c]).length == 0) = false := rfl
  cases h1 : (decide ((S t).length < (S [c]).length) || decide (Builtin.Str.strKind (S t) < Builtin.Str.strKind (S [c])))
  · cases hf : (Builtin.Str.occurrences (S t) (S [c]) 0 (S t).length ((S t).length + 1)).isEmpty
    · have es : Txt.split (S t) (S [c]) = Builtin.Str.partsBetween (S t) (Builtin.Str.occurrences (S t) (S [c]) 0 (S t).length ((S t).length + 1)) (S [c]).length := by
        unfold Txt.split
        rw [if_neg (ne_true_of_eq_false h1), if_neg (ne_true_of_eq_false hf)]
      have hpl : (Builtin.Str.partsBetween (S t) (Builtin.Str.occurrences (S t) (S [c]) 0 (S t).length ((S t).length + 1)) (S [c]).length).length ≤ sizeLine := by
        rw [← es, e0, List.length_map]; exact hwl
      refine call_meets F.slot_str_split (typeIs_str _ _ _) F.entry_str_split (F.args_str_split_2 _ _) (meets_str_split_sep (S t) (S [c]) k k2 h1 hy hf (by rw [len_S]; omega) hpl) ?_
      rw [strsFrom_eq]
      exact fin (numbered s.toks _) _ ((numbered_texts _ _).trans es.symm)
    · refine call_meets F.slot_str_split (typeIs_str _ _ _) F.entry_str_split (F.args_str_split_2 _ _) (meets_str_split_not_found (S t) (S [c]) k k2 h1 hy hf) ?_
      refine fin [(S t, k)] s.toks ?_
      unfold Txt.split
      rw [if_neg (ne_true_of_eq_false h1), if_pos hf]
      rfl
  · refine call_meets F.slot_str_split (typeIs_str _ _ _) F.entry_str_split (F.args_str_split_2 _ _) (meets_str_split_cannot_occur (S t) (S [c]) k k2 h1) ?_
    refine fin [(S t, k)] s.toks ?_
    unfold Txt.split
    rw [if_pos h1]
    rfl
/-- x.startswith(y) -/
theorem mt_starts : MtR X "str.startswith" (fun x vs H Q => ∃ i j, x = .str i ∧ vs = [.str j] ∧ Q (.bl (Txt.startswith i j)) H) := by
  intro pins s σ H x vs v us Q I rx rv h
  obtain ⟨i, j, rfl, rfl, q⟩ := h
  obtain ⟨k, rfl⟩ := rx
  obtain ⟨u, rfl, ru⟩ := rv.one
  obtain ⟨k2, rfl⟩ := ru
  exact SC.startswith ⟨.bl _, H, I, rfl, q⟩
/-- int(text) -/
theorem call_int_text : CallR X (.type "int") (fun xs H Q => ∃ t : T, xs = [.str (S t)] ∧ isNumT t = true ∧ Q (.int (intOf t)) H) := by
  intro pins s σ H xs us Q I r h
  obtain ⟨t, rfl, hn, q⟩ := h
  obtain ⟨u, rfl, ru⟩ := vals1 r
  obtain ⟨k, rfl⟩ := ru
  obtain ⟨h1, h2⟩ := int_text hn
  exact PySem.W.KIN.call_text h1 h2 ⟨.int _, H, I.tok _, ⟨_, rfl⟩, q⟩
/-- str(text), str(int) -/
theorem call_str_of : CallR X (.type "str") (fun xs H Q => (∃ x, xs = [.str x] ∧ Q (.str x) H) ∨ ∃ i : Int, xs = [.int i] ∧ i.natAbs < 2 ^ 1000 ∧ Q (.str (S (numT i))) H) := by
  intro pins s σ H xs us Q I r h
  rcases h with ⟨x, rfl, q⟩ | ⟨i, rfl, hi, q⟩
  · obtain ⟨u, rfl, ru⟩ := vals1 r
    obtain ⟨k, rfl⟩ := ru
    exact PySem.P.str_of_str ⟨.str x, H, I, ⟨k, rfl⟩, q⟩
  · refine call_str_int pins s σ H _ us Q I r ⟨i, rfl, ?_, ?_⟩
    · by_cases h0 : i.natAbs = 0
      · rw [h0]; decide
      · have := (Nat.log2_lt h0).mpr hi
        omega
    · have e : (Str.ofString (toString i)) = S (numT i) := by
        rw [Str.ofString_eq_toList]
        rw [numT_eq]
        rfl
      show Q (.str (Str.ofString (toString i))) H
      rw [e]
      exact q
/-- isinstance(x, C) -/
theorem call_isi : CallR X (.builtin "isinstance") (fun xs H Q => ∃ (x c : V) (t cv : Value) (b : Bool), xs = [x, c] ∧ TyOf X.K H x t ∧ (∀ u, RelV c u → u = cv) ∧ PySem.W.kitOne X.K t cv = some b ∧ Q (.bl b) H) := by
  intro pins s σ H xs us Q I r h
  obtain ⟨x, c, t, cv, b, rfl, ty, hc, hk, q⟩ := h
  obtain ⟨u, v, rfl, ru, rv⟩ := vals2 r
  cases hc v rv
  exact isinst_ok I ru ty hk fun tk => ⟨.bl b, H, I.tok tk, rfl, q⟩
/-- all(list of bools) -/
theorem call_all (hc : X.calm = true) : CallR X (.builtin "all") (fun xs H Q => ∃ (a : Addr) (bs : List Bool), xs = [.ref a] ∧ SqL X.K H a (bs.map V.bl) ∧ Q (.bl (bs.all id)) H) := by
  intro pins s σ H xs us Q I r h
  obtain ⟨a, bs, rfl, hq, q⟩ := h
  obtain ⟨u, rfl, ru⟩ := vals1 r
  cases ru
  obtain ⟨its, rv, pl, hz⟩ := I.list hq
  refine call_all_walkS (wpAny_pyIter_list pl.isList ?_)
  have hlt : a < s.heap.objs.size := by
    obtain ⟨o, n, e, _⟩ := pl
    exact Heap.lt_size e
  have hlen := rv.length
  have htr : ∀ i v, its.toArray[i]? = some v → v = Value.bool (bs.getD i true) := fun i v e => by
    have e' : its[i]? = some v := by simpa using e
    have hi : i < its.length := (List.getElem?_eq_some_iff.mp e').1
    have hb : (bs.map V.bl)[i]? = some (.bl (bs.getD i true)) := by
      rw [List.length_map] at hlen
      have hi2 : i < bs.length := by omega
      simp [hi2]
    obtain ⟨w', e2, rw'⟩ := rv.get hb
    rw [e'] at e2
    cases e2
    exact rw'
  refine ⟨s.heap.objs.size, _, _, _, _, _, _, fun i => bs.getD i true, rfl, (Walks.list (A := X.A.in1) (show X.A.in1.handled = none from I.ok.hd hc) s.heap.objs.size a (Nat.ne_of_lt hlt) its.toArray).toS, ?_, ?_, ?_⟩
  · exact ⟨⟨_, Heap.get?_push_size _ rfl, rfl, rfl⟩, pl.isList.push _⟩
  · intro i v s' Q' E' hv hq'
    rw [htr i v hv]
    exact wpAny_truthy_bool hq'
  · intro s' mv
    obtain ⟨hh, g, d, tk, os⟩ := s'
    have h1 : g = s.gens := mv.gens
    have h2 : d = s.drawn := mv.drawn
    have h3 : os = s.os := mv.os
    subst h1 h2 h3
    have I1 : Inv X pins σ H { s with heap := s.heap.push { cls := .type "list_iterator", data := .fields #[.ref a, .int 0 0] } } := I.kept (t' := s.toks) fun b o e => Heap.get?_push_of_some _ e
    have I2 : Inv X pins σ H ⟨hh, s.gens, s.drawn, tk, s.os⟩ := by
      obtain ⟨f0, f1, f2, f3, f4, f5⟩ := I.fpOk (b := s.heap.objs.size) (Nat.le_refl _) I.fresh
      have := I1.turned (it := s.heap.objs.size) (h' := hh) (t' := tk) (fun b o hb e => mv.heap b o (by simpa using hb) e) f0 f1 f3 f4 f5
      exact this
    refine ⟨.bl _, H, I2, rfl, ?_⟩
    have e : (List.range its.toArray.size).all (fun i => bs.getD i true) = bs.all id := by
      rw [List.size_toArray, ← hlen, List.length_map]
      rw [Bool.eq_iff_iff, List.all_eq_true, List.all_eq_true]
      constructor
      · intro h b hb
        obtain ⟨i, hi, e⟩ := List.getElem_of_mem hb
        have := h i (List.mem_range.mpr hi)
        simpa [hi, e] using this
      · intro h i hi
        have hi' := List.mem_range.mp hi
        have := h bs[i] (List.getElem_mem hi')
        simpa [hi'] using this
    rw [e]
    exact q
/-- x is not True -/
theorem op_isnotT : OpR X (compareOp .IsNot) (fun x y H Q => ∃ b c, x = .bl b ∧ y = .bl c ∧ Q (.bl (!(b == c))) H) := by
  intro pins s σ H x y v u Q I rx ry h
  obtain ⟨b, c, rfl, rfl, q⟩ := h
  cases rx
  cases ry
  show wpAny _ _ (do return Value.bool (!(← isSame (.bool b) (.bool c)))) _ _ s
  refine wpAny_bind (wpAny_pure (wpAny_pure ⟨.bl _, H, I, rfl, ?_⟩))
  have e : (Value.bool b == Value.bool c) = (b == c) := by cases b <;> cases c <;> rfl
  rw [e]
  exact q
/-- text[lo:hi] -/
def cutT (x : T) (lo hi : Option Int) : T := (x.drop (HT.sIx x.length 0 lo)).take (HT.sIx x.length x.length hi - HT.sIx x.length 0 lo)
end
end L2

-- R2
set_option linter.all false
set_option maxRecDepth 100000
namespace L2
open PySem PySem.Spec PyProof.Rows
/-! comprehensions of lists -/
section
variable {prog : Program} {w : World} {A : Around} {R : Result → Shared → Prop} {s : Shared}
/-- a comprehension's tests, one behind the other -/
abbrev testsOf (ifs : List Expr) (env : Env) : Sem Bool := forIn ifs true fun c r => if r = true then do let ok ← isTrue c env (eval c env); pure (ForInStep.yield ok) else pure (ForInStep.yield r)
theorem compLoop_any {elt target iter : Expr} {ifs : List Expr} {scope : Scope} {pos : Pos} {it acc : Value} {env : Env} (Iv : Nat → Shared → Prop) (Ex : Value → Shared → Prop)
    (hEx : ∀ e s', Ex e s' → notedBy (model prog w) A env (fun e s' => R (.error e) s') e s')
    (turn : ∀ n s, Iv n s → wpAny (model prog w) A (pyNext it) (fun r s1 => match r with
      | none => R (.ok .next) s1
      | some v => wpAny (model prog w) A (letOwnedTupleGo target it v) (fun _ s2 => wpAny (model prog w) A (assign target env v) (fun _ s3 => wpAny (model prog w) A (testsOf ifs env) (fun ok s4 =>
          if ok = true then wpAny (model prog w) A (eval elt env) (fun x s5 => wpAny (model prog w) A (call (.builtin "list.append") [acc, x]) (fun _ s6 => ∃ m, m < n ∧ Iv m s6) Ex s5) Ex s4
          else ∃ m, m < n ∧ Iv m s4) Ex s3) Ex s2) Ex s1) Ex s) (n : Nat) (h : Iv n s) :
    codeAny (model prog w) A (.compLoop (.ListComp elt [⟨target, iter, ifs, 0⟩] scope pos) 0 it acc env) R s := by
  refine codeAny_loop rfl Iv (fun n s hI => ?_) n h
  show wpAny (model prog w) A ((compTurn (.ListComp elt [⟨target, iter, ifs, 0⟩] scope pos) 0 it acc env).onRaise (fun x => do noteFrame x env; theTreesLotGoes x)) _ _ s
  refine wpAny_noted ?_
  rw [compTurn_list]
  refine wpAny_bind (wpAny_standAt (wpAny_bind (wpAny_mono (turn n s hI) (fun r s1 h1 => ?_) hEx)))
  cases r with
  | none => exact wpAny_pure h1
  | some v =>
    refine wpAny_bind (wpAny_mono h1 (fun _ s2 h2 => wpAny_bind (wpAny_mono h2 (fun _ s3 h3 => wpAny_bind (wpAny_mono h3 (fun ok s4 h4 => ?_) hEx)) hEx)) hEx)
    cases ok with
    | false => exact wpAny_pure ⟨rfl, h4⟩
    | true => exact wpAny_bind (wpAny_bind (wpAny_mono h4 (fun x s5 h5 => wpAny_bind (wpAny_mono h5 (fun _ s6 h6 => wpAny_pure (wpAny_pure ⟨rfl, h6⟩)) hEx)) hEx))
end

/-! ### the closure -/
def clGo (cells : List (Str × Addr)) : List (Str × NameKind) → List (Str × Addr) → List (Str × Addr)
  | [], cs => cs
  | (n, k) :: r, cs => if k == .free then (match cells.lookup n with | some c => clGo cells r ((n, c) :: cs) | none => clGo cells r cs) else clGo cells r cs
theorem closure_go {env : Env} : ∀ (names : List (Str × NameKind)) (cs : List (Str × Addr)), (∀ n, (n, NameKind.free) ∈ names → ∃ c, env.cells.lookup n = some c) →
    (forIn names cs (fun (x : Str × NameKind) (r : List (Str × Addr)) => if (x.2 == NameKind.free) = true then do let c ← cellOf env x.1; pure (ForInStep.yield ((x.1, c) :: r)) else pure (ForInStep.yield r)) : Sem (List (Str × Addr))) = pure (clGo env.cells names cs)
  | [], cs, _ => rfl
  | (n, k) :: r, cs, h => by
    have ih := fun cs => closure_go (env := env) r cs fun m hm => h m (List.mem_cons_of_mem _ hm)
    rw [List.forIn_cons]
    unfold clGo
    by_cases hk : (k == NameKind.free) = true
    · have e : k = .free := eq_of_beq hk
      subst e
      obtain ⟨c, hc⟩ := h n List.mem_cons_self
      simp only [hk, if_true, hc]
      have ec : cellOf env n = pure c := by unfold cellOf; rw [hc]
      rw [ec]
      exact ih _
    · simp only [hk, if_false, Bool.false_eq_true]
      exact ih _
theorem closure_eq {scope : Scope} {env : Env} (h : ∀ n, (n, NameKind.free) ∈ scope.names → ∃ c, env.cells.lookup n = some c) : closureFor scope env = pure (clGo env.cells scope.names []) := by
  unfold closureFor
  have := closure_go (env := env) scope.names [] h
  refine Eq.trans ?_ (congrArg (· >>= pure) this)
  rfl
theorem clGo_sub {cells : List (Str × Addr)} {x : Str} {c : Addr} : ∀ {names : List (Str × NameKind)} {cs : List (Str × Addr)}, (clGo cells names cs).lookup x = some c → cs.lookup x = some c ∨ cells.lookup x = some c
  | [], cs, h => .inl h
  | (n, k) :: r, cs, h => by
    unfold clGo at h
    split at h
    · split at h
      · rename_i c' hc'
        rcases clGo_sub h with q | q
        · rw [List.lookup_cons] at q
          by_cases e : (x == n) = true
          · rw [e] at q
            cases q
            right
            rw [eq_of_beq e]; exact hc'
          · rw [Bool.eq_false_iff.mpr e] at q
            exact .inl q
        · exact .inr q
      · exact clGo_sub h
    · exact clGo_sub h
theorem clGo_keeps {cells : List (Str × Addr)} {x : Str} : ∀ {names : List (Str × NameKind)} {cs : List (Str × Addr)}, (∃ c, cs.lookup x = some c) → ∃ c, (clGo cells names cs).lookup x = some c
  | [], cs, h => h
  | (n, k) :: r, cs, h => by
    unfold clGo
    split
    · split
      · refine clGo_keeps ?_
        rw [List.lookup_cons]
        cases (x == n)
        · exact h
        · exact ⟨_, rfl⟩
      · exact clGo_keeps h
    · exact clGo_keeps h
theorem clGo_has {cells : List (Str × Addr)} {x : Str} {c0 : Addr} (hc : cells.lookup x = some c0) : ∀ {names : List (Str × NameKind)} {cs : List (Str × Addr)}, (x, NameKind.free) ∈ names → ∃ c, (clGo cells names cs).lookup x = some c
  | [], cs, h => by cases h
  | (n, k) :: r, cs, h => by
    unfold clGo
    rcases List.mem_cons.mp h with e | h
    · cases e
      rw [if_pos (by rfl), hc]
      refine clGo_keeps ⟨c0, ?_⟩
      rw [List.lookup_cons, beq_self_eq_true]
    · split
      · split
        · exact clGo_has hc h
        · exact clGo_has hc h
      · exact clGo_has hc h
theorem mem_of_lookup' {x : Str} {k : NameKind} : ∀ {names : List (Str × NameKind)}, names.lookup x = some k → (x, k) ∈ names
  | [], h => by cases h
  | (n, k') :: r, h => by
    rw [List.lookup_cons] at h
    by_cases e : (x == n) = true
    · rw [e] at h
      cases h
      rw [eq_of_beq e]; exact List.mem_cons_self
    · rw [Bool.eq_false_iff.mpr e] at h
      exact List.mem_cons_of_mem _ (mem_of_lookup' h)
/-- a cell or a free name of the block is a free name of its scope -/
theorem relabel_free {scope : Scope} {env : Env} {x : Str} (hn : ∀ y ∈ scope.names, y.2 ≠ .cell) (h : (relabel scope env).names.lookup x = some .cell ∨ (relabel scope env).names.lookup x = some .free) : (x, NameKind.free) ∈ scope.names := by
  have main : ∀ names : List (Str × NameKind), (∀ y ∈ names, y.2 ≠ .cell) → ∀ k, (names.map fun (n, k) => if (k == NameKind.free && env.scope.kind == .function && env.kindOf n == some .cell) then (n, NameKind.cell) else (n, k)).lookup x = some k → k = .cell ∨ k = .free → (x, NameKind.free) ∈ names := by
    intro names
    induction names with
    | nil => intro _ k h; cases h
    | cons p r ih =>
      intro hy k h hk
      obtain ⟨n, k0⟩ := p
      rw [List.map_cons] at h
      have ih' := ih (fun y hy' => hy y (List.mem_cons_of_mem _ hy')) k
      dsimp only at h
      by_cases hc : (k0 == NameKind.free && env.scope.kind == .function && env.kindOf n == some .cell) = true
      · rw [if_pos hc] at h
        have e0 : k0 = .free := by
          simp only [Bool.and_eq_true] at hc
          exact eq_of_beq hc.1.1
        subst e0
        rw [List.lookup_cons] at h
        by_cases e : (x == n) = true
        · rw [eq_of_beq e]; exact List.mem_cons_self
        · rw [Bool.eq_false_iff.mpr e] at h
          exact List.mem_cons_of_mem _ (ih' h hk)
      · rw [if_neg hc] at h
        rw [List.lookup_cons] at h
        by_cases e : (x == n) = true
        · rw [e] at h
          cases h
          rcases hk with rfl | rfl
          · exact absurd rfl (hy _ List.mem_cons_self)
          · rw [eq_of_beq e]; exact List.mem_cons_self
        · rw [Bool.eq_false_iff.mpr e] at h
          exact List.mem_cons_of_mem _ (ih' h hk)
  rcases h with h | h
  · exact main scope.names hn _ h (.inl rfl)
  · exact main scope.names hn _ h (.inr rfl)

/-! ### the block's context -/
def compCx (X : Cx) (T : List Str) (scope : Scope) (C : Addr) (s : Shared) (H : Hp) (ex : List Addr) (pn : List (Addr × Obj)) (E : Value → Shared → Prop) : Cx :=
  { X with N := T ++ X.N, s₀ := s, H₀ := H, env := compEnvC scope (clGo X.env.cells scope.names []) C X.env, outer := X.stack, stack := X.stack, ex := ex, fn := fun _ => false, pn := pn, xe := E }
/-- what the block's scope asks of the scope around it -/
structure ScopeIn (X : Cx) (T : List Str) (scope : Scope) : Prop where
  kind : scope.kind = .function
  nocell : ∀ y ∈ scope.names, y.2 ≠ .cell
  loc : ∀ x ∈ scope.names, x.2 = .local → scope.names.lookup x.1 = some .local
  cap : ∀ n, (n, NameKind.free) ∈ scope.names → X.env.kindOf n = some .cell ∨ X.env.kindOf n = some .free
  dis : ∀ x ∈ X.N, scope.names.lookup x ≠ some .local
section
variable {X : Cx} {T : List Str} {scope : Scope} {pins : List (Addr × Obj)} {σ : St} {H : Hp} {s s1 : Shared} {C : Addr} {fp : List Addr} {m : Str → Option Value} {E : Value → Shared → Prop}
theorem lookup_relabel_not {env : Env} {x : Str} : ∀ {names : List (Str × NameKind)}, (names.map fun (n, k) => if (k == NameKind.free && env.scope.kind == .function && env.kindOf n == some .cell) then (n, NameKind.cell) else (n, k)).lookup x = some .local → names.lookup x = some .local
  | [], h => by cases h
  | (n, k) :: r, h => by
    rw [List.map_cons] at h
    dsimp only at h
    rw [List.lookup_cons]
    by_cases hc : (k == NameKind.free && env.scope.kind == .function && env.kindOf n == some .cell) = true
    · rw [if_pos hc, List.lookup_cons] at h
      cases e : (x == n)
      · rw [e] at h; exact lookup_relabel_not h
      · rw [e] at h; cases h
    · rw [if_neg hc, List.lookup_cons] at h
      cases e : (x == n)
      · rw [e] at h; exact lookup_relabel_not h
      · rw [e] at h; exact h
theorem comp_start (S : ScopeIn X T scope) (I : Inv X pins σ H s) (hf : ∀ b ∈ fp, FpOk X pins H b) (hfl : ∀ b ∈ fp, b < s.heap.objs.size) (hk : ∀ b o, s.heap.get? b = some o → s1.heap.get? b = some o)
    (hC : s.heap.objs.size ≤ C) (hn : s1.heap.Ns C m) (hos : s1.os = s.os) (hg : s1.gens = s.gens) : Inv (compCx X T scope C s H fp (X.pn ++ pins) E) [] (List.replicate T.length none ++ σ) H s1 := by
  have hL : X.env.locals < s.heap.objs.size := I.lt
  have sub : ∀ x c, (clGo X.env.cells scope.names []).lookup x = some c → X.env.cells.lookup x = some c := fun x c e => (clGo_sub e).elim (fun z => by cases z) id
  have inSt : ∀ b ∈ frs X.stack, b < s.heap.objs.size := fun b hb => by
    obtain ⟨_, o, ho, _⟩ := I.stack.mem hb
    exact Heap.lt_size ho
  have cellLt : ∀ x c, X.env.cells.lookup x = some c → c < s.heap.objs.size := fun x c e => by
    obtain ⟨v, q⟩ := I.cell x c e
    exact q.lt
  refine ⟨⟨I.ok.mod, S.kind, I.ok.glob, I.ok.blt, hC, fun x y c h1 h2 => I.ok.inj x y c (sub x c h1) (sub y c h2), fun x hx => ?_, fun x c hx _ => (by cases hx), I.ok.hd, I.ok.frames, .inl rfl, fun b hb => ⟨Nat.ne_of_lt (Nat.lt_of_lt_of_le (hfl b hb) hC), fun x c e => (hf b hb).2.2.2.2.1 x c (sub x c e)⟩,
    I.bs, Nat.le_trans I.ok.bsz I.sz, fun b o e hb => ?_, fun b hb z => ?_, I.stack, I.stkFree⟩, hos, hg ▸ I.bare, Un.kept hk, ⟨m, hn, fun i x v h1 h2 h3 => ?_⟩, fun x c e => ?_, I.hok.fresh hC, fun x c e => I.freeC x c (sub x c e), fun p hp => ?_, I.hok.kept hk, ?_⟩
  · have hx' : (relabel scope X.env).names.lookup x = some .cell ∨ (relabel scope X.env).names.lookup x = some .free := hx
    have hm := relabel_free S.nocell hx'
    obtain ⟨c0, hc0⟩ := I.ok.has x (S.cap x hm)
    exact clGo_has hc0 hm
  · rcases (hf b hb).2.2.2.1 with z | z
    · exact I.ok.noex b o e z
    · exact absurd (Nat.lt_of_lt_of_le (Heap.lt_size e) (Nat.le_trans I.ok.bsz z)) (Nat.lt_irrefl _)
  · rcases List.mem_cons.mp (I.stkSub b z) with q | q
    · exact (hf b hb).2.1 q
    · exact (hf b hb).2.2.1 q
  · have hi : ¬ i < T.length := fun hi => by
      rw [List.getElem?_append_left (by rw [List.length_replicate]; exact hi), List.getElem?_replicate, if_pos hi] at h2
      cases h2
    have h1' : X.N[i - T.length]? = some x := by
      have h1' : (T ++ X.N)[i]? = some x := h1
      rw [List.getElem?_append_right (by omega)] at h1'
      exact h1'
    have h2' : σ[i - T.length]? = some (some v) := by
      rw [List.getElem?_append_right (by rw [List.length_replicate]; omega), List.length_replicate] at h2
      exact h2
    have h3' : (relabel scope X.env).names.lookup x = some .cell ∨ (relabel scope X.env).names.lookup x = some .free := by
      rcases h3 with h3 | h3
      · exact absurd (lookup_relabel_not h3) (S.dis x (List.mem_of_getElem? h1'))
      · exact h3
    have hm := relabel_free S.nocell h3'
    have hcap := S.cap x hm
    obtain ⟨mm, _, hl⟩ := I.loc
    obtain ⟨u, ru, lk⟩ := hl _ x v h1' h2' (hcap.elim (fun z => .inr (.inl z)) fun z => .inr (.inr z))
    refine ⟨u, ru, .inr ⟨h3', ?_⟩⟩
    rcases lk with ⟨z, _⟩ | ⟨_, c, ec, hcell⟩
    · rcases hcap with q | q
      · rw [z] at q; cases q
      · rw [z] at q; cases q
    · obtain ⟨c', ec'⟩ := clGo_has (cs := []) ec hm
      have : c' = c := by
        have := sub x c' ec'
        rw [ec] at this
        exact (Option.some.inj this).symm
      subst this
      obtain ⟨o, ho, hd⟩ := hcell
      exact ⟨c', ec', ⟨o, hk _ _ ho, hd⟩⟩
  · obtain ⟨v, o, ho, hd⟩ := I.cell x c (sub x c e)
    exact ⟨v, o, hk _ _ ho, hd⟩
  · have hp' : p ∈ X.pn ++ pins := by
      rcases List.mem_append.mp hp with z | z
      · exact z
      · cases z
    obtain ⟨e, n, ne, nf, d⟩ := I.pin p hp'
    refine ⟨hk _ _ e, n, Nat.ne_of_lt (Nat.lt_of_lt_of_le (Heap.lt_size e) hC), fun z => ?_, d⟩
    rcases List.mem_cons.mp (I.stkSub p.1 z) with q | q
    · exact ne q
    · exact nf q
  · show (List.replicate T.length none ++ σ).length = (T ++ X.N).length
    rw [List.length_append, List.length_append, List.length_replicate, I.len]
/-- behind the block: what the context around holds -/
theorem comp_end {σ' : St} {H' : Hp} {s' : Shared} {h' : Heap} {pl : List (Addr × Obj)} {D : Addr} {ys : List V} {us : List Value} {n : Nat} (I : Inv X pins σ H s) (hf : ∀ b ∈ fp, FpOk X pins H b) (hC : s.heap.objs.size ≤ C) (hD : s.heap.objs.size ≤ D) (hDC : D ≠ C)
    (J : Inv (compCx X T scope C s H fp (X.pn ++ pins) E) pl σ' H' s') (hsb : Heap.SameBut C s'.heap h') (hDn : H' D = none) (hDo : s'.heap.get? D = some { cls := .type "list", data := .seq us.toArray n }) (hv : Vals ys us) (hz : ys.length ≤ sizeLine) :
    Inv X pins σ (upd H' D (.lst ys)) { s' with heap := h' } := by
  have keepC : ∀ b o, b ≠ C → s'.heap.get? b = some o → h'.get? b = some o := fun b o hb e => hsb.extBut b o hb e
  have ltC : ∀ b o, s.heap.get? b = some o → b ≠ C := fun b o e => Nat.ne_of_lt (Nat.lt_of_lt_of_le (Heap.lt_size e) hC)
  have ltD : ∀ b o, s.heap.get? b = some o → b ≠ D := fun b o e => Nat.ne_of_lt (Nat.lt_of_lt_of_le (Heap.lt_size e) hD)
  have hCn : H' C = none := J.free
  have hH0 : H D = none := I.hok.fresh hD
  have u := J.base
  have hok1 : HOk X.prog X.w H' h' := fun a o e => by
    have nC : ∀ b o, H' b = some o → b ≠ C := fun b o e z => by rw [z, hCn] at e; cases e
    refine (J.hok a o e).stay (fun b v hb q => keepC b v ?_ q) (fun _ q => q) fun _ _ q => q
    rcases hb with rfl | hb
    · exact nC _ _ e
    · exact nC _ _ hb
  have hok2 : HOk X.prog X.w (upd H' D (.lst ys)) h' := fun a o e => by
    by_cases ha : a = D
    · subst ha
      rw [upd_same] at e
      cases e
      exact ⟨hz, us, n, hv, keepC _ _ hDC hDo⟩
    · rw [upd_ne ha] at e
      exact (hok1 a o e).stay (fun _ _ _ q => q) (fun b q => by rw [upd_ne (ne_of_none q hDn)]; exact q) fun b xs q => by rw [upd_ne (ne_of_none q hDn)]; exact q
  refine I.call' (ch := fp) (s' := { s' with heap := h' }) J.os ⟨fun b o e n hb hx => keepC b o (ltC b o e) (u.keep b o e n hb hx), fun b o e n hb hx => ?_, fun b o e n hx => ?_, fun b o e hx => ?_, fun b xs e => ?_, fun b o v e => ?_, fun b ps e => ?_⟩ hok2 J.bare fun b hb => ?_
  · obtain ⟨sl, q⟩ := u.slot b o e n hb hx
    exact ⟨sl, keepC b _ (ltC b o e) q⟩
  · rw [upd_ne (ltD b o e)]; exact u.free b o e n hx
  · obtain ⟨o', q⟩ := u.there b o e hx
    exact ⟨o', keepC b o' (ltC b o e) q⟩
  · have hb : b ≠ D := ne_of_none e hH0
    rw [upd_ne hb]; exact u.tups b xs e
  · have hb : b ≠ D := ne_of_none e hH0
    rw [upd_ne hb]; exact u.frzs b o v e
  · have hb : b ≠ D := ne_of_none e hH0
    rw [upd_ne hb]; exact u.tbls b ps e
  · obtain ⟨_, f1, _, f3, f4, f5⟩ := hf b hb
    exact ⟨f3, f1, f4, f5⟩
end

/-! ### the rule -/
def PIfs (X : Cx) (ifs : List Expr) (t : TT) : Prop :=
  ∀ (pins : List (Addr × Obj)) (s : Shared) (σ : St) (H : Hp) (Q : Bool → Hp → Prop), Inv X pins σ H s → t σ H Q → wpAny (model X.prog X.w) X.A (testsOf ifs X.env) (TP X pins σ Q) X.xe s
def tYes : TT := fun _ H Q => Q true H
theorem pifs_nil {X : Cx} : PIfs X [] tYes := fun _ _ _ H _ I h => wpAny_tests_nil ⟨H, I, h⟩
theorem pifs_one {X : Cx} {c : Expr} {t : TT} (h : PT X c t) : PIfs X [c] t := fun pins s σ H Q I q => wpAny_tests_one (h pins s σ H Q I q)
def tComp (k : Nat) (wi : TI) (g : TG) (tt : TT) (te : TE) : TE := fun σ H Q => wi σ H fun J H1 => ∃ W : Nat → Nat → List V → Hp → Prop, (∃ m, W 0 m [] H1) ∧ ∀ i m ys H, W i m ys H →
  (J.stop i H ∧ ∀ p, H p = none → Q (.ref p) (upd H p (.lst ys))) ∨
  (J.go i H ∧ ys.length < sizeLine ∧ ∀ x H', J.yld i H x H' → g x (List.replicate k none ++ σ) H' fun σ2 H2 => tt σ2 H2 fun b H3 =>
    if b = true then te σ2 H3 fun y H4 => ∃ m', m' < m ∧ W (i + 1) m' (ys ++ [y]) H4 else ∃ m', m' < m ∧ W (i + 1) m' ys H3)
/-- the block's targets are its first names -/
def Firsts (k : Nat) (g : TG) : Prop := ∀ (x : V) (σ : St) (H : Hp) (Q : St → Hp → Prop), g x (List.replicate k none ++ σ) H Q → g x (List.replicate k none ++ σ) H fun σ2 H2 => σ2.length = k + σ.length ∧ (∀ i, k ≤ i → σ2[i]? = σ[i - k]?) ∧ Q σ2 H2
theorem firsts_one : Firsts 1 (gName 0) := fun x σ H Q h => by
  refine ⟨by simp [Nat.add_comm], fun i hi => ?_, h⟩
  obtain ⟨j, rfl⟩ : ∃ j, i = j + 1 := ⟨i - 1, by omega⟩
  simp
theorem firsts_two {K : PySem.W.Frag} : Firsts 2 (gTup K 2 (gCons (gName 0) (gCons (gName 1) gNil))) := fun x σ H Q h => by
  obtain ⟨a, xs, rfl, hs, hl, v, r, e1, v2, r2, e2, e3, q⟩ := h
  refine ⟨a, xs, rfl, hs, hl, v, r, e1, v2, r2, e2, e3, by simp; omega, fun i hi => ?_, q⟩
  obtain ⟨j, rfl⟩ : ∃ j, i = j + 2 := ⟨i - 2, by omega⟩
  simp
inductive IsComp (X : Cx) (T : List Str) (scope : Scope) (E : Value → Shared → Prop) : Cx → Prop where
  | mk (C : Addr) (s : Shared) (H : Hp) (ex : List Addr) (pn : List (Addr × Obj)) : IsComp X T scope E (compCx X T scope C s H ex pn E)
section
variable {X : Cx} {T : List Str} {scope : Scope} {elt iter tg : Expr} {ifs : List Expr} {pos : Pos} {wi : TI} {g : TG} {tt : TT} {te : TE}
/-- the loop of the block; Ex: what an exception within is to reach -/
theorem comp_loop {pins : List (Addr × Obj)} {σ : St} {H : Hp} {s s1 : Shared} {C D it : Addr} {fp : List Addr} {tn : Nat → Heap → Prop} {J : It} {Ex : Value → Shared → Prop} {R : Result → Shared → Prop} {W : Nat → Nat → List V → Hp → Prop} {m0 : Nat} {Qe : List V → Hp → Prop}
    (hc : X.calm = true) (hg : PG (compCx X T scope C s H fp (X.pn ++ pins) Ex) tg g) (hgf : Firsts T.length g) (ht : PIfs (compCx X T scope C s H fp (X.pn ++ pins) Ex) ifs tt) (he : PE (compCx X T scope C s H fp (X.pn ++ pins) Ex) elt te)
    (Tn : Turn X.prog X.w X.K tg J fp it tn) (hf : ∀ b ∈ fp, FpOk X pins H b) (hfl : ∀ b ∈ fp, b < s.heap.objs.size) (hC : s.heap.objs.size ≤ C) (hD : s.heap.objs.size ≤ D) (hDC : D ≠ C) (hpn : ∀ p ∈ X.pn ++ pins, p.1 < s.heap.objs.size) (hst : ∀ b ∈ frs X.stack, b < s.heap.objs.size) (hHD : H D = none)
    (I1 : Inv (compCx X T scope C s H fp (X.pn ++ pins) Ex) [] (List.replicate T.length none ++ σ) H s1) (st1 : tn 0 s1.heap) (hDo : s1.heap.get? D = some { cls := .type "list", data := .seq ([] : List Value).toArray })
    (hEx : ∀ e s', Ex e s' → notedBy (model X.prog X.w) X.A (compEnvC scope (clGo X.env.cells scope.names []) C X.env) (fun e s' => R (.error e) s') e s') (w0 : W 0 m0 [] H)
    (turn : ∀ i m ys H, W i m ys H → (J.stop i H ∧ Qe ys H) ∨ (J.go i H ∧ ys.length < sizeLine ∧ ∀ x H', J.yld i H x H' → g x (List.replicate T.length none ++ σ) H' fun σ2 H2 => tt σ2 H2 fun b H3 =>
      if b = true then te σ2 H3 fun y H4 => ∃ m', m' < m ∧ W (i + 1) m' (ys ++ [y]) H4 else ∃ m', m' < m ∧ W (i + 1) m' ys H3))
    (hR : ∀ s2 σ2 H2 ys us n, Inv (compCx X T scope C s H fp (X.pn ++ pins) Ex) [] σ2 H2 s2 → H2 D = none → s2.heap.get? D = some { cls := .type "list", data := .seq us.toArray n } → Vals ys us → ys.length ≤ sizeLine → Qe ys H2 → R (.ok .next) s2) :
    codeAny (model X.prog X.w) X.A (.compLoop (.ListComp elt [⟨tg, iter, ifs, 0⟩] scope pos) 0 (.ref it) (.ref D) (compEnvC scope (clGo X.env.cells scope.names []) C X.env)) R s1 := by
  have hfD : ∀ b ∈ fp, b ≠ D := fun b hb => Nat.ne_of_lt (Nat.lt_of_lt_of_le (hfl b hb) hD)
  have hpD : ∀ p ∈ X.pn ++ pins, p.1 ≠ D := fun p hp => Nat.ne_of_lt (Nat.lt_of_lt_of_le (hpn p hp) hD)
  have hDf : D ∉ frs X.stack := fun hb => Nat.lt_irrefl _ (Nat.lt_of_lt_of_le (hst D hb) hD)
  have cD : ∀ x c, (clGo X.env.cells scope.names []).lookup x = some c → c ≠ D := fun x c e z => by
    obtain ⟨v, o, ho, hd⟩ := I1.cell x c e
    rw [z, hDo] at ho
    cases ho
    cases hd
  have fpY : ∀ (pl : List (Addr × Obj)) (H' : Hp), (∀ b ∈ fp, H' b = none) → (∀ p ∈ pl, p.1 = D) → ∀ b ∈ fp, FpOk (compCx X T scope C s H fp (X.pn ++ pins) Ex) pl H' b := fun pl H' hn hpl b hb =>
    ⟨hn b hb, (I1.ok.exf b hb).1, I1.ok.exfs b hb, .inl hb, (I1.ok.exf b hb).2, fun p hp => by
      rcases List.mem_append.mp hp with z | z
      · exact (hf b hb).2.2.2.2.2 p z
      · rw [hpl p z]; exact Ne.symm (hfD b hb)⟩
  refine compLoop_any (fun m s' => ∃ i ys us n H', Inv (compCx X T scope C s H fp (X.pn ++ pins) Ex) [] (List.replicate T.length none ++ σ) H' s' ∧ tn i s'.heap ∧ (∀ b ∈ fp, H' b = none) ∧ H' D = none ∧
    s'.heap.get? D = some { cls := .type "list", data := .seq us.toArray n } ∧ Vals ys us ∧ ys.length ≤ sizeLine ∧ W i m ys H') Ex hEx ?_ m0
    ⟨0, [], [], 0, H, I1, st1, fun b hb => (hf b hb).1, hHD, hDo, .nil, Nat.zero_le _, w0⟩
  rintro m s3 ⟨i, ys, us, n, H3, I3, st3, fr3, hD3, hDo3, hv3, hz3, w3⟩
  have I3D : Inv (compCx X T scope C s H fp (X.pn ++ pins) Ex) [(D, { cls := .type "list", data := .seq us.toArray n })] (List.replicate T.length none ++ σ) H3 s3 := I3.pins_of fun p hp => by
    have e : p = (D, { cls := .type "list", data := .seq us.toArray n }) := by simpa using hp
    subst e
    exact ⟨hDo3, hD3, hDC, hDf, fun v z => by cases z⟩
  have plD : ∀ p ∈ [((D, { cls := .type "list", data := .seq us.toArray n }) : Addr × Obj)], p.1 = D := fun p hp => by
    have e : p = (D, { cls := .type "list", data := .seq us.toArray n }) := by simpa using hp
    rw [e]
  rcases turn i m ys H3 w3 with ⟨stop, qe⟩ | ⟨go, hlt, step⟩
  · refine thn (Tn.done (compCx X T scope C s H fp (X.pn ++ pins) Ex) rfl rfl rfl hc i _ s3 _ H3 Ex I3D (fpY _ H3 fr3 plD) st3 stop) fun r s4 ⟨hr, I4⟩ => ?_
    subst hr
    have p4 := I4.pin (D, { cls := .type "list", data := .seq us.toArray n }) (List.mem_append_right _ (by simp))
    exact hR s4 _ H3 ys us n (I4.pins_of fun p hp => by cases hp) hD3 p4.1 hv3 hz3 qe
  · refine thn (Tn.item (compCx X T scope C s H fp (X.pn ++ pins) Ex) rfl rfl rfl hc i _ s3 _ H3 Ex I3D (fpY _ H3 fr3 plD) st3 go) fun r s4 ⟨u, hr, h4⟩ => ?_
    subst hr
    refine thn h4 fun _ s5 ⟨x, H5, I5, r5, y5, st5, fr5⟩ => ?_
    have I5' := I5.pinned (fpY _ H5 fr5 plD) (Tn.obj _ _ st5)
    refine thn (hg _ s5 _ H5 x u _ I5' r5 (hgf x σ H5 _ (step x H5 y5))) fun _ s6 ⟨σ6, H6, I6, hl6, hs6, q6⟩ => ?_
    refine thn (ht _ s6 σ6 H6 _ I6 q6) fun ok s7 ⟨H7, I7, q7⟩ => ?_
    -- what holds behind the turn's last step
    have back : ∀ {H8 : Hp} {s8 : Shared}, Inv (compCx X T scope C s H fp (X.pn ++ pins) Ex) ([(D, { cls := .type "list", data := .seq us.toArray n })] ++ pinsAt fp s5.heap) σ6 H8 s8 →
        Inv (compCx X T scope C s H fp (X.pn ++ pins) Ex) [] (List.replicate T.length none ++ σ) H8 s8 ∧ tn (i + 1) s8.heap ∧ (∀ b ∈ fp, H8 b = none) ∧ H8 D = none ∧ s8.heap.get? D = some { cls := .type "list", data := .seq us.toArray n } := fun {H8 s8} I8 => by
      refine ⟨(I8.pins_of (pins' := []) fun p hp => by cases hp).weak ?_ fun j v e => ?_, Tn.keep _ _ _ st5 fun b hb o e => (I8.pin (b, o) (List.mem_append_right _ (List.mem_append_right _ (mem_pinsAt hb e)))).1, fun b hb => ?_, ?_, ?_⟩
      · rw [hl6, List.length_append, List.length_replicate]
      · by_cases hj : j < T.length
        · rw [List.getElem?_append_left (by rw [List.length_replicate]; exact hj), List.getElem?_replicate, if_pos hj] at e
          cases e
        · rw [List.getElem?_append_right (by rw [List.length_replicate]; omega), List.length_replicate] at e
          rw [hs6 j (by omega)]
          exact e
      · obtain ⟨o, e, d⟩ := Tn.obj _ _ st5 b hb
        exact (I8.pin (b, o) (List.mem_append_right _ (List.mem_append_right _ (mem_pinsAt hb e)))).2.1
      · exact (I8.pin (D, { cls := .type "list", data := .seq us.toArray n }) (List.mem_append_right _ (List.mem_append_left _ (by simp)))).2.1
      · exact (I8.pin (D, { cls := .type "list", data := .seq us.toArray n }) (List.mem_append_right _ (List.mem_append_left _ (by simp)))).1
    cases ok with
    | false =>
      simp only [Bool.false_eq_true, if_false] at q7 ⊢
      obtain ⟨m', hm, w7⟩ := q7
      obtain ⟨J8, st8, fr8, hD8, hDo8⟩ := back I7
      exact ⟨m', hm, i + 1, ys, us, n, H7, J8, st8, fr8, hD8, hDo8, hv3, hz3, w7⟩
    | true =>
      simp only [if_true] at q7 ⊢
      refine thn (he _ s7 σ6 H7 _ I7 q7) fun uy s8 ⟨y, H8, I8, ry, m', hm, w8⟩ => ?_
      obtain ⟨J8, st8, fr8, hD8, hDo8⟩ := back I8
      have hsz : us.toArray.size ≤ sizeLine := by
        have e1 := hv3.length
        rw [List.size_toArray]; omega
      refine wpAny_list_append_plain (hsz := hsz) (⟨_, hDo8⟩ : s8.heap.PlainList D us.toArray) fun h9 hl9 hs9 => ?_
      obtain ⟨n9, e9⟩ := hl9
      have J9 : Inv (compCx X T scope C s H fp (X.pn ++ pins) Ex) [] (List.replicate T.length none ++ σ) H8 { s8 with heap := h9 } :=
        J8.turned (it := D) (t' := s8.toks) (fun b o hb e => hs9.extBut b o hb e) hD8 hDC (.inr hD) cD fun p hp => by
          rcases List.mem_append.mp hp with z | z
          · exact hpD p z
          · cases z
      refine ⟨m', hm, i + 1, ys ++ [y], us ++ [uy], n9, H8, J9, Tn.keep _ _ _ st8 fun b hb o e => hs9.extBut b o (hfD b hb) e, fr8, hD8, ?_, hv3.append (.cons ry .nil), ?_, w8⟩
      · rw [e9]; simp
      · rw [List.length_append, List.length_singleton]; omega
theorem pe_comp (S : ScopeIn X T scope) (hc : X.calm = true) (hi : PI X tg iter wi) (hg : ∀ Y, IsComp X T scope (fun _ _ => False) Y → PG Y tg g) (hgf : Firsts T.length g) (ht : ∀ Y, IsComp X T scope (fun _ _ => False) Y → PIfs Y ifs tt)
    (he : ∀ Y, IsComp X T scope (fun _ _ => False) Y → PE Y elt te) (hs : ∀ x, foldedSetIterable iter X.env x = pure x := by intro _; rfl) : PE X (.ListComp elt [⟨tg, iter, ifs, 0⟩] scope pos) (tComp T.length wi g tt te) := by
  intro pins s σ H Q I h
  rw [eval_ListComp]
  refine wpAny_comprehension_free (use := none) (cl := clGo X.env.cells scope.names []) rfl hs (closure_eq fun n hn => I.ok.has n (S.cap n hn)) S.kind S.loc ?_
  refine thn (hi pins s σ H _ I h) fun v s1 h1 => thn h1 fun itv s2 h2 => ?_
  obtain ⟨it, fp, tn, J, H2, e, I2, Tn, st2, f2, W, ⟨m0, w0⟩, turn⟩ := h2
  subst e
  have hfl : ∀ b ∈ fp, b < s2.heap.objs.size := fun b hb => by
    obtain ⟨o, ho, _⟩ := Tn.obj _ _ st2 b hb
    exact Heap.lt_size ho
  refine wpAny_newObj_type (wpAny_newFunctionEnv S.nocell (by intro y hy; cases hy) (fun h4 hns hsb => ?_) S.kind)
  dsimp only at hns hsb ⊢
  generalize hH3 : s2.heap.push { cls := .type "list", dict := none, data := .seq ([] : List Value).toArray } = H3 at hns hsb ⊢
  have hC : H3.objs.size = s2.heap.objs.size + 1 := by rw [← hH3, Heap.size_push]
  have old3 : ∀ b o, H3.get? b = some o → h4.get? b = some o := fun b o e => hsb.extBut b o (Nat.ne_of_lt (Heap.lt_size e)) (Heap.get?_push_of_some _ e)
  have old : ∀ b o, s2.heap.get? b = some o → h4.get? b = some o := fun b o e => old3 b o (by rw [← hH3]; exact Heap.get?_push_of_some _ e)
  have hDo : h4.get? s2.heap.objs.size = some { cls := .type "list", data := .seq ([] : List Value).toArray } := old3 _ _ (by rw [← hH3]; exact Heap.get?_push_size _ rfl)
  have hDC : s2.heap.objs.size ≠ H3.objs.size := by omega
  have loop : ∀ s4 : Shared, s4 = { s2 with heap := h4, toks := s2.toks + ([] : List (Str × Value)).length } →
      codeAny (model X.prog X.w) X.A (.compLoop (.ListComp elt [⟨tg, iter, ifs, 0⟩] scope pos) 0 (.ref it) (.ref s2.heap.objs.size) (compEnvC scope (clGo X.env.cells scope.names []) H3.objs.size X.env))
        (compPost (model X.prog X.w) X.A X.xe none (EP X pins σ Q) (.ref s2.heap.objs.size) H3.objs.size) s4 := by
    rintro s4 rfl
    have I4 : Inv (compCx X T scope H3.objs.size s2 H2 fp (X.pn ++ pins) (fun _ _ => False)) [] (List.replicate T.length none ++ σ) H2 { s2 with heap := h4, toks := s2.toks + ([] : List (Str × Value)).length } :=
      comp_start S I2 f2 hfl old (by omega) hns rfl rfl
    refine comp_loop (Qe := fun ys H => ∀ p, H p = none → Q (.ref p) (upd H p (.lst ys))) hc (hg _ (.mk ..)) hgf (ht _ (.mk ..)) (he _ (.mk ..)) Tn f2 hfl (by omega) (Nat.le_refl _) hDC (fun p hp => Heap.lt_size (I2.pin p hp).1) (fun b hb => ?_) I2.fresh I4 ?_ hDo (fun _ _ z => z.elim) w0 turn ?_
    · obtain ⟨_, o, ho, _⟩ := I2.stack.mem hb
      exact Heap.lt_size ho
    · exact Tn.keep _ _ _ st2 fun b hb o e => old b o e
    · intro s5 σ5 H5 ys us n I5 hD5 hDo5 hv hz q
      obtain ⟨mm, hn5, _⟩ := I5.loc
      exact ⟨mm, hn5, fun h' hsb' => ⟨.ref s2.heap.objs.size, _, comp_end I2 f2 (by omega) (Nat.le_refl _) hDC I5 hsb' hD5 hDo5 hv hz, rfl, q _ hD5⟩⟩
  refine codeAny_compStart_list (loop _ rfl) (Tn.self _ 0 _ _ _ ?_ (loop _ rfl))
  exact Tn.keep _ _ _ st2 fun b hb o e => old b o e
end
end L2

-- R2b
set_option linter.all false
set_option maxRecDepth 100000
/-! x = [..]: the block's list is stored ahead of its names' going -/
namespace L2
open PySem PySem.Spec PyProof.Rows
section
variable {X : Cx} {T : List Str} {scope : Scope} {elt iter tg : Expr} {ifs : List Expr} {pos : Pos} {wi : TI} {g : TG} {tt : TT} {te : TE}
theorem ps_setComp {i : Nat} {y : Str} {py spos : Pos} (S : ScopeIn X T scope) (hc : X.calm = true) (hN : X.N.Nodup) (hi : X.N[i]? = some y) (hy : X.env.scope.names.lookup y = some .local) (hit : PI X tg iter wi) (hg : ∀ Y, IsComp X T scope (fun _ _ => False) Y → PG Y tg g) (hgf : Firsts T.length g)
    (ht : ∀ Y, IsComp X T scope (fun _ _ => False) Y → PIfs Y ifs tt) (he : ∀ Y, IsComp X T scope (fun _ _ => False) Y → PE Y elt te)
    (hsw : swapsWith (.ListComp elt [⟨tg, iter, ifs, 0⟩] scope pos) (some (.Name y py)) spos.line X.env = pure true := by rfl) (hs : ∀ x, foldedSetIterable iter X.env x = pure x := by intro _; rfl) :
    PS X (.Assign [.Name y py] (.ListComp elt [⟨tg, iter, ifs, 0⟩] scope pos) spos) (tAsg (tComp T.length wi g tt te) (gName i)) := by
  intro pins s σ H D I h
  rw [exec_Assign_Name_used _ _ _ _ hsw]
  refine wpAny_bind (wpAny_standAt (wpAny_bind ?_))
  show wpAny _ X.A (do let _ ← comprehension (.ListComp elt [⟨tg, iter, ifs, 0⟩] scope pos) scope X.env _ (newList []) false (eval iter X.env) (some (assign (.Name y py) X.env))) _ _ s
  refine wpAny_bind (wpAny_mono (wpAny_comprehension_free (use := some (assign (.Name y py) X.env)) (cl := clGo X.env.cells scope.names []) (Q := fun _ s' => SP X pins D .next s') rfl hs (closure_eq fun n hn => I.ok.has n (S.cap n hn)) S.kind S.loc ?_) (fun _ s' hq => wpAny_pure (wpAny_pure hq)) fun _ _ e => e)
  refine thn (hit pins s σ H _ I h) fun v s1 h1 => thn h1 fun itv s2 h2 => ?_
  obtain ⟨it, fp, tn, J, H2, e, I2, Tn, st2, f2, W, ⟨m0, w0⟩, turn⟩ := h2
  subst e
  have hfl : ∀ b ∈ fp, b < s2.heap.objs.size := fun b hb => by
    obtain ⟨o, ho, _⟩ := Tn.obj _ _ st2 b hb
    exact Heap.lt_size ho
  refine wpAny_newObj_type (wpAny_newFunctionEnv S.nocell (by intro y hy; cases hy) (fun h4 hns hsb => ?_) S.kind)
  dsimp only at hns hsb ⊢
  generalize hH3 : s2.heap.push { cls := .type "list", dict := none, data := .seq ([] : List Value).toArray } = H3 at hns hsb ⊢
  have hC : H3.objs.size = s2.heap.objs.size + 1 := by rw [← hH3, Heap.size_push]
  have old3 : ∀ b o, H3.get? b = some o → h4.get? b = some o := fun b o e => hsb.extBut b o (Nat.ne_of_lt (Heap.lt_size e)) (Heap.get?_push_of_some _ e)
  have old : ∀ b o, s2.heap.get? b = some o → h4.get? b = some o := fun b o e => old3 b o (by rw [← hH3]; exact Heap.get?_push_of_some _ e)
  have hDo : h4.get? s2.heap.objs.size = some { cls := .type "list", data := .seq ([] : List Value).toArray } := old3 _ _ (by rw [← hH3]; exact Heap.get?_push_size _ rfl)
  have hDC : s2.heap.objs.size ≠ H3.objs.size := by omega
  have loop : ∀ s4 : Shared, s4 = { s2 with heap := h4, toks := s2.toks + ([] : List (Str × Value)).length } →
      codeAny (model X.prog X.w) X.A (.compLoop (.ListComp elt [⟨tg, iter, ifs, 0⟩] scope pos) 0 (.ref it) (.ref s2.heap.objs.size) (compEnvC scope (clGo X.env.cells scope.names []) H3.objs.size X.env))
        (compPost (model X.prog X.w) X.A X.xe (some (assign (.Name y py) X.env)) (fun _ s' => SP X pins D .next s') (.ref s2.heap.objs.size) H3.objs.size) s4 := by
    rintro s4 rfl
    have I4 : Inv (compCx X T scope H3.objs.size s2 H2 fp (X.pn ++ pins) (fun _ _ => False)) [] (List.replicate T.length none ++ σ) H2 { s2 with heap := h4, toks := s2.toks + ([] : List (Str × Value)).length } :=
      comp_start S I2 f2 hfl old (by omega) hns rfl rfl
    refine comp_loop (Qe := fun ys H => ∀ p, H p = none → D.nx (σ.set i (some (.ref p))) (upd H p (.lst ys))) hc (hg _ (.mk ..)) hgf (ht _ (.mk ..)) (he _ (.mk ..)) Tn f2 hfl (by omega) (Nat.le_refl _) hDC (fun p hp => Heap.lt_size (I2.pin p hp).1) (fun b hb => ?_) I2.fresh I4 ?_ hDo (fun _ _ z => z.elim) w0 turn ?_
    · obtain ⟨_, o, ho, _⟩ := I2.stack.mem hb
      exact Heap.lt_size ho
    · exact Tn.keep _ _ _ st2 fun b hb o e => old b o e
    · intro s5 σ5 H5 ys us n I5 hD5 hDo5 hv hz q
      obtain ⟨mm, hn5, _⟩ := I5.loc
      have hn5' : s5.heap.Ns H3.objs.size mm := hn5
      have I6 : Inv X pins σ (upd H5 s2.heap.objs.size (.lst ys)) { s5 with heap := s5.heap } := comp_end I2 f2 (by omega) (Nat.le_refl _) hDC I5 (Heap.SameBut.refl ..) hD5 hDo5 hv hz
      have hCf : H5 H3.objs.size = none := I5.free
      show wpAny _ X.A (assign (.Name y py) X.env (.ref s2.heap.objs.size)) _ _ s5
      refine wpAny_assign_Name (store_ok2 (v := .ref s2.heap.objs.size) I6 hN hi (.inl hy) rfl (fun s7 I7 ⟨b, hsb7, hb⟩ => ?_) (.inr hy))
      have hCL : H3.objs.size ≠ X.env.locals := fun z => by have := I2.lt; rw [← z] at this; exact absurd (show H3.objs.size < s2.heap.objs.size from this) (by omega)
      have hcC : ∀ x c, X.env.cells.lookup x = some c → c ≠ H3.objs.size := fun x c e z => by
        obtain ⟨v, o, ho, _⟩ := I2.cell x c e
        have := Heap.lt_size ho
        rw [z] at this; exact absurd (show H3.objs.size < s2.heap.objs.size from this) (by omega)
      have hbC : H3.objs.size ≠ b := by
        rcases hb with rfl | hb
        · exact hCL
        · exact fun z => hcC _ _ hb z.symm
      refine ⟨mm, hn5'.sameBut hsb7 hbC, fun h' hsb' => ⟨_, _, ?_, q _ hD5⟩⟩
      refine I7.turned (it := H3.objs.size) (t' := s7.toks) (fun b o hb e => hsb'.extBut b o hb e) ?_ hCL (.inr ?_) hcC fun p hp => ?_
      · rw [upd_ne (Ne.symm hDC)]; exact hCf
      · have := I2.sz; omega
      · have := Heap.lt_size (I2.pin p hp).1
        exact fun z => absurd (show H3.objs.size < s2.heap.objs.size from z ▸ this) (by omega)
  refine codeAny_compStart_list (loop _ rfl) (Tn.self _ 0 _ _ _ ?_ (loop _ rfl))
  exact Tn.keep _ _ _ st2 fun b hb o e => old b o e
end
end L2

-- R3
set_option linter.all false
set_option maxRecDepth 100000
namespace L2
open PySem PySem.Spec PyProof.Rows K2
/-! what loops walk: texts, enumerate and zip of tuples -/
section
variable {prog : Program} {w : World} {A : Around} {E : Value → Shared → Prop} {s : Shared}
/-- the next item of a tuple's iterator, asked from within -/
theorem tupNext_item {j l : Addr} {i : Nat} {items : Array Value} {x : Value} {Q : Value → Shared → Prop} (hj : s.heap.IsTupleIter j l i) (hl : s.heap.IsTuple l items) (hx : items[i]? = some x)
    (hQ : ∀ h', h'.IsTupleIter j l (i + 1) → Heap.SameBut j s.heap h' → Q x { s with heap := h' }) : wpAny (model prog w) A (Builtin.SmallTypes.nextOf (.ref j)) Q E s := by
  obtain ⟨o, ho, hc, hd⟩ := id hj
  obtain ⟨ol, hol, _, nl, hdl⟩ := hl
  unfold Builtin.SmallTypes.nextOf
  refine wpAny_bind (wpAny_callSpecial?_slot (name := Str.ofString "__next__") hj.typeIs F.slot_tuple_iterator_next (wpAny_call_entry F.slot_tuple_iterator_next hj.typeIs F.entry_tuple_iterator_next ?_ (F.args_tuple_iterator_next_1 _)))
  show wpAny _ _ (field (.ref j) 0 >>= _) _ _ s; refine wpAny_bind (wpAny_field ho hd (x := .ref l) rfl ?_)
  show wpAny _ _ (if (Value.ref l == Value.none) = true then _ else _) _ _ s; rw [if_neg (show ¬ ((Value.ref l == Value.none) = true) from Bool.false_ne_true)]
  show wpAny _ _ (field (.ref j) 1 >>= _) _ _ s; refine wpAny_bind (wpAny_field ho hd (x := .int i 0) rfl ?_)
  show wpAny _ _ (seqItems? (.ref l) >>= _) _ _ s; refine wpAny_bind (wpAny_seqItems hol hdl ?_)
  simp only [Int.toNat_natCast, hx]
  refine wpAny_bind (wpAny_setField ho hd (by simp) (wpAny_pure ⟨x, rfl, wpAny_pure (hQ _ ?_ (Heap.SameBut.update ..))⟩))
  exact ⟨_, Heap.get?_update_self _ ho (Obj.isFreed_of_fields (Obj.data_mapFields hd _)), (Obj.cls_mapFields ..).trans hc, by rw [Obj.data_mapFields hd]; simp [rawInt]⟩
theorem tupNext_end {j l : Addr} {i : Nat} {items : Array Value} {Q : Value → Shared → Prop} (hh : A.handled = none) (hj : s.heap.IsTupleIter j l i) (hl : s.heap.IsTuple l items) (hx : items[i]? = none)
    (hE : ∀ h' e, Heap.ExtBut j s.heap h' → (∃ o, h'.get? e = some o ∧ o.cls = .type "StopIteration") → E (.ref e) { s with heap := h' }) : wpAny (model prog w) A (Builtin.SmallTypes.nextOf (.ref j)) Q E s := by
  obtain ⟨o, ho, hc, hd⟩ := id hj
  obtain ⟨ol, hol, _, nl, hdl⟩ := hl
  unfold Builtin.SmallTypes.nextOf
  refine wpAny_bind (wpAny_callSpecial?_slot (name := Str.ofString "__next__") hj.typeIs F.slot_tuple_iterator_next (wpAny_call_entry F.slot_tuple_iterator_next hj.typeIs F.entry_tuple_iterator_next ?_ (F.args_tuple_iterator_next_1 _)))
  show wpAny _ _ (field (.ref j) 0 >>= _) _ _ s; refine wpAny_bind (wpAny_field ho hd (x := .ref l) rfl ?_)
  show wpAny _ _ (if (Value.ref l == Value.none) = true then _ else _) _ _ s; rw [if_neg (show ¬ ((Value.ref l == Value.none) = true) from Bool.false_ne_true)]
  show wpAny _ _ (field (.ref j) 1 >>= _) _ _ s; refine wpAny_bind (wpAny_field ho hd (x := .int i 0) rfl ?_)
  show wpAny _ _ (seqItems? (.ref l) >>= _) _ _ s; refine wpAny_bind (wpAny_seqItems hol hdl ?_)
  simp only [Int.toNat_natCast, hx]
  refine wpAny_bind (wpAny_rule (wpAny_bind (wpAny_setField ho hd (by simp) ?_))); show wpAny _ _ (newExc (.type "StopIteration") [] >>= _) _ _ _; refine wpAny_bind ?_
  simp only [newExc, newTuple]; refine wpAny_bind (wpAny_newObj_type ?_ (by size_fits))
  refine wpAny_bind (m := firstArgMember _ _) (wpAny_of_eq (a := Value.none) (by first | rfl | (simp only [firstArgMember]; rfl)) ?_); refine wpAny_newObj_type ?_ (by size_fits)
  simp only [raiseNew]; refine wpAny_bind (wpAny_handled ?_)
  first | rw [show A.in1.handled = none from hh] | rw [hh]
  refine wpAny_bind (wpAny_pure (wpAny_throw ?_)); exact hE _ _ (((Heap.SameBut.update ..).extBut.push _).push _) ⟨_, Heap.get?_push_size _ rfl, rfl⟩
theorem draws_tup (hh : A.handled = none) (j l : Addr) (hne : l ≠ j) (items : Array Value) : Draws prog w A j [j, l] items.size (fun i v => items[i]? = some v) (fun i h => h.IsTupleIter j l i ∧ h.IsTuple l items) where
  live := fun _ _ st => by obtain ⟨o, ho, _⟩ := st.1; exact ⟨o, ho⟩
  frame := fun _ _ _ st hk => ⟨st.1.at fun o e => hk j (by simp) o e, by obtain ⟨o, ho, r⟩ := st.2; exact ⟨o, hk l (by simp) o ho, r⟩⟩
  item := fun i s Q E hi st hQ => tupNext_item st.1 st.2 (x := items[i]) (by simp [hi]) fun h' hj' hs' => hQ _ h' s.toks (by simp [hi]) ⟨hj', by obtain ⟨o, ho, r⟩ := st.2; exact ⟨o, hs'.extBut _ _ hne ho, r⟩⟩ hs'
  done := fun s Q E st hE => tupNext_end hh st.1 st.2 (by simp) hE
/-- enumerate(a tuple) is made -/
theorem enum_new (l : Addr) (items : Array Value) (n : Nat) (dct : Option Addr) (sl : Array (Option Value)) :
    Meets (Builtin.«enumerate.__new__» ⟨[.type "enumerate", .ref l], []⟩) (fun _ R s => s.heap.get? l = some { cls := .type "tuple", dict := dct, data := .seq items n, slots := sl } ∧
      R (.ok (.ret (.ref (s.heap.push { cls := .type "tuple_iterator", data := .fields #[.ref l, .int 0 0] }).objs.size)))
        { s with heap := (s.heap.push { cls := .type "tuple_iterator", data := .fields #[.ref l, .int 0 0] }).push { cls := .type "enumerate", data := .fields #[.none, .bool false, .ref s.heap.objs.size, rawInt 0, .none, .none] } }) :=
  .of_wp fun prog w A R s h => by
    obtain ⟨hp, g, d, tk, os⟩ := s
    obtain ⟨hl, h⟩ := h
    have hsub := sub_enumerate
    have hT : Heap.IsTuple (Shared.heap ⟨hp, g, d, tk, os⟩) l items := ⟨_, hl, rfl, n, rfl⟩
    wp_walk using AutoSeq1.wpAny_loadPart' hl
    refine wpAny_stack_any fun st => wpAny_pure ?_
    split
    · rename_i c _ _ _ _ _
      cases (c == Value.type "enumerate") <;> (wp_walk using AutoSeq1.wpAny_loadPart' hl, wpAny_pyIter_tuple hT; exact ⟨_, rfl, h⟩)
    · wp_walk using AutoSeq1.wpAny_loadPart' hl, wpAny_pyIter_tuple hT
      exact ⟨_, rfl, h⟩
theorem call_enum {l : Addr} {items : Array Value} {Q : Value → Shared → Prop} (hL : s.heap.IsTuple l items)
    (h : ∀ h', IsEnum h' (s.heap.objs.size + 1) s.heap.objs.size 0 .none → h'.IsTupleIter s.heap.objs.size l 0 → h'.objs.size = s.heap.objs.size + 2 → (∀ b o, s.heap.get? b = some o → h'.get? b = some o) → Q (.ref (s.heap.objs.size + 1)) { s with heap := h' }) :
    wpAny (model prog w) A (call (.type "enumerate") [.ref l]) Q E s := by
  obtain ⟨⟨c, dct, dt, sl⟩, hl, hc, n, hd⟩ := hL
  obtain rfl : c = .type "tuple" := hc
  obtain rfl : dt = .seq items n := hd
  refine callType_new F.called_enumerate (by decide) (F.typeCall_enumerate_1 _) (F.newCall_enumerate_1 _) (fun obj => F.args_object_init_2 obj _) F.entry_enumerate_new (enum_new l items n dct sl) ⟨hl, ?_⟩
  have hz : (s.heap.push { cls := .type "tuple_iterator", data := .fields #[.ref l, .int 0 0] }).objs.size = s.heap.objs.size + 1 := Heap.size_push ..
  show _ ∧ _
  rw [hz]
  have he : IsEnum ((s.heap.push { cls := .type "tuple_iterator", data := .fields #[.ref l, .int 0 0] }).push { cls := .type "enumerate", data := .fields #[.none, .bool false, .ref s.heap.objs.size, rawInt 0, .none, .none] }) (s.heap.objs.size + 1) s.heap.objs.size 0 .none := by
    have q := Heap.get?_push_size (s.heap.push { cls := .type "tuple_iterator", data := .fields #[.ref l, .int 0 0] }) (o := { cls := .type "enumerate", data := .fields #[.none, .bool false, .ref s.heap.objs.size, rawInt 0, .none, .none] }) rfl
    rw [hz] at q
    exact q
  exact ⟨⟨_, he, rfl⟩, h _ he ⟨_, Heap.get?_push_of_some _ (Heap.get?_push_size _ rfl), rfl, rfl⟩ (by rw [Heap.size_push, hz]) fun b o x => Heap.get?_push_of_some _ (Heap.get?_push_of_some _ x)⟩
end

/-! ### the turns -/
/-- n turns, the i-th gives val i -/
def Itw (n : Nat) (val : Nat → V) : It := ⟨fun i _ => i < n, fun i H x H' => H' = H ∧ x = val i, fun i _ => i = n⟩
/-- n turns, the i-th gives a new tuple of val i; G: what stands while it is walked -/
def Itp (n : Nat) (val : Nat → List V) (G : Hp → Prop) : It := ⟨fun i H => i < n ∧ G H, fun i H x H' => ∃ t, H t = none ∧ x = .ref t ∧ H' = upd H t (.tup (val i)), fun i H => i = n ∧ G H⟩
theorem turn_walk {P : Program} {w : World} {K : PySem.W.Frag} {tg : Expr} {it : Addr} {n : Nat} {Pv : Nat → Value → Prop} {St : Nat → Heap → Prop} {val : Nat → V} (W : ∀ A : Around, A.handled = none → Walks P w A it [it] [it] n Pv St)
    (hv : ∀ i u, Pv i u → RelV (val i) u) (fr : ∀ i h h', St i h → (∀ b ∈ [it], ∀ o, h.get? b = some o → h'.get? b = some o) → St i h')
    (ob : ∀ i h, St i h → ∃ o vs ty, h.get? it = some o ∧ o.cls = .type ty ∧ o.data = .fields vs ∧ ["enumerate", "zip", "dict_itemiterator", "dict_reverseitemiterator", "odict_iterator", "itertools.zip_longest", "itertools.pairwise"].contains ty = false)
    (sf : ∀ (A : Around) (i : Nat) (s : Shared) (Q : Value → Shared → Prop) (E : Value → Shared → Prop), St i s.heap → Q (.ref it) s → wpAny (model P w) A (pyIter (.ref it)) Q E s) : Turn P w K tg (Itw n val) [it] it St where
  mem := by simp
  obj := fun i h st b hb => by
    obtain rfl : b = it := by simpa using hb
    obtain ⟨o, vs, ty, e, _, d, _⟩ := ob i h st
    exact ⟨o, e, fun v z => by rw [d] at z; cases z⟩
  keep := fr
  item := by
    intro X hP hw hK hc i pins s σ H E I hf st hg
    subst hP hw hK
    obtain ⟨f0, f1, f2, f3, f4, f5⟩ := hf it (by simp)
    refine (W X.A (I.ok.hd hc)).item i s _ _ hg st fun v h' tk hP st' kk => ?_
    have I1 : Inv X pins σ H { s with heap := h', toks := tk } := I.turned (fun b o hb e => kk b o (by simpa using hb) e) f0 f1 f3 f4 f5
    obtain ⟨o, vs, ty, e, c, d, nn⟩ := ob (i + 1) h' st'
    exact ⟨v, rfl, go_of (s := { s with heap := h', toks := tk }) e c d nn ⟨val i, H, I1, hv i v hP, ⟨rfl, rfl⟩, st', fun b hb => (hf b hb).1⟩⟩
  done := by
    intro X hP hw hK hc i pins s σ H E I hf st hg
    subst hP hw hK
    obtain rfl : i = n := hg
    obtain ⟨f0, f1, f2, f3, f4, f5⟩ := hf it (by simp)
    exact (W X.A (I.ok.hd hc)).done s _ _ st fun h' tk kk => ⟨rfl, I.turned (fun b o hb e => kk b o (by simpa using hb) e) f0 f1 f3 f4 f5⟩
  self := sf
section
variable {X : Cx} {tg : Expr}
/-- a text, sign by sign -/
def iStr (tl : TE) : TI := fun σ H R => tl σ H fun x H1 => ∃ t : T, x = .str (S t) ∧ R (Itw t.length fun i => .str (S [t.getD i 0])) H1
theorem pi_str {l : Expr} {tl : TE} (hl : PE X l tl) : PI X tg l (iStr tl) := by
  intro pins s σ H R I h
  refine thn (hl pins s σ H _ I h) fun v s1 ⟨x, H1, I1, r1, q1⟩ => ?_
  obtain ⟨t, rfl, q⟩ := q1
  obtain ⟨tk, rfl⟩ := r1
  have sgn : ∀ i u, SignAt (S t) i u → RelV (.str (S [t.getD i 0])) u := fun i u hu => by
    obtain ⟨c, k, e1, rfl⟩ := hu
    have e2 : t[i]? = some c := by simpa [S] using e1
    refine ⟨k, ?_⟩
    have : t.getD i 0 = c := by simp [List.getD, e2]
    rw [this]
    rfl
  have fin : ∀ (ty : String) (hty : ["enumerate", "zip", "dict_itemiterator", "dict_reverseitemiterator", "odict_iterator", "itertools.zip_longest", "itertools.pairwise"].contains ty = false)
      (W : ∀ A : Around, A.handled = none → Walks X.prog X.w A s1.heap.objs.size [s1.heap.objs.size] [s1.heap.objs.size] (S t).cps.size (SignAt (S t)) (fun i h => h.IsStrIter s1.heap.objs.size ty (S t) tk i))
      (sf : ∀ (A : Around) (i : Nat) (s : Shared) (Q : Value → Shared → Prop) (E : Value → Shared → Prop), s.heap.IsStrIter s1.heap.objs.size ty (S t) tk i → Q (.ref s1.heap.objs.size) s → wpAny (model X.prog X.w) A (pyIter (.ref s1.heap.objs.size)) Q E s),
      PIE X pins σ tg R (.ref s1.heap.objs.size) { s1 with heap := s1.heap.push { cls := .type ty, data := .fields #[.str (S t) tk, .int 0 0] } } := fun ty hty W sf => by
    refine ⟨s1.heap.objs.size, [s1.heap.objs.size], _, _, H1, rfl, I1.kept (t' := s1.toks) fun b o e => Heap.get?_push_of_some _ e, turn_walk W sgn ?_ ?_ sf, ⟨_, Heap.get?_push_size _ rfl, rfl, rfl⟩, fun b hb => ?_, q⟩
    · intro i h h' st k
      obtain ⟨o, ho, r⟩ := st
      exact ⟨o, k _ (by simp) o ho, r⟩
    · intro i h st
      obtain ⟨o, ho, c, d⟩ := st
      exact ⟨o, _, ty, ho, c, d, hty⟩
    · obtain rfl : b = s1.heap.objs.size := by simpa using hb
      exact I1.fpOk (Nat.le_refl _) (I1.hok.fresh (Nat.le_refl _))
  cases ha : (S t).cps.all (· < 128)
  · exact wpAny_pyIter_wide ha (fin _ (by decide) (fun A hA => Walks.strWide hA _ (S t) tk) fun A i s Q E st hq => wpAny_pyIter_striter_wide st hq)
  · exact wpAny_pyIter_ascii ha (fin _ (by decide) (fun A hA => Walks.strAscii hA _ (S t) tk) fun A i s Q E st hq => wpAny_pyIter_striter_ascii st hq)
end
/-- turns that hand out tuples: the iterator's objects fp may turn, wr of them are written; δ: what is walked, as it stands in the heap -/
theorem turn_walkT {P : Program} {w : World} {K : PySem.W.Frag} {elts : List Expr} {kt : Nat} {pt : Pos} {it : Addr} {fp fpW : List Addr} {wr : List Addr} {n : Nat} {δ : Type} {Ok : δ → Prop} {Src : δ → Heap → Prop} {Pt : δ → Nat → Array Value → Prop} {St : Nat → Heap → Prop} {Mid : δ → Nat → Addr → Heap → Prop} {val : Nat → List V} {G : Hp → Prop}
    (W : ∀ (A : Around) (d : δ), A.handled = none → Ok d → WalksT P w A it fpW wr n (Pt d) (fun i h => St i h ∧ Src d h) (Mid d)) (src : ∀ (X : Cx) (pins : List (Addr × Obj)) (σ : L2.St) (H : Hp) (s : Shared), X.K = K → Inv X pins σ H s → G H → ∃ d, Ok d ∧ Src d s.heap)
    (hv : ∀ d i us, Ok d → Pt d i us → Vals (val i) us.toList) (hz : ∀ i, (val i).length ≤ sizeLine) (hit : it ∈ wr) (fr : ∀ i h h', St i h → (∀ b ∈ fp, ∀ o, h.get? b = some o → h'.get? b = some o) → St i h')
    (big : ∀ i h, St i h → ∀ b ∈ fp, ∃ o, h.get? b = some o ∧ ∀ v, o.data ≠ .cell v)
    (sf : ∀ (A : Around) (i : Nat) (s : Shared) (Q : Value → Shared → Prop) (E : Value → Shared → Prop), St i s.heap → Q (.ref it) s → wpAny (model P w) A (pyIter (.ref it)) Q E s) (hsub : ∀ b ∈ wr, b ∈ fp) : Turn P w K (.Tuple elts kt pt) (Itp n val G) fp it St where
  mem := hsub _ hit
  obj := big
  keep := fr
  item := by
    intro X hP hw hK hc i pins s σ H E I hf st hg
    subst hP hw hK
    obtain ⟨hg, hG⟩ := hg
    obtain ⟨dd, okd, srcd⟩ := src X pins σ H s rfl I hG
    have W0 := W X.A dd (I.ok.hd hc) okd
    refine W0.item i s _ _ hg ⟨st, srcd⟩ fun Tp vals h' tk hp hTs hT mid kk => ?_
    refine ⟨.ref Tp, rfl, ?_⟩
    refine W0.go elts kt pt i Tp { s with heap := h', toks := tk } _ _ mid fun h2 ⟨st2, _⟩ kk2 => ?_
    have hTw := W0.apart i Tp h' mid
    have hn : H Tp = none := I.hok.fresh hTs
    have lt : ∀ b o, s.heap.get? b = some o → b ≠ Tp := fun b o e => Nat.ne_of_lt (Nat.lt_of_lt_of_le (Heap.lt_size e) hTs)
    have kp : ∀ b o, b ∉ wr → s.heap.get? b = some o → h2.get? b = some o := fun b o hb e => kk2 b o hb (kk b o hb e)
    have nw : ∀ b, H b ≠ none → b ∉ wr := fun b hb hm => hb (hf b (hsub b hm)).1
    obtain ⟨oT, eT, cT, nT, dT⟩ := hT
    have hv' := hv dd i vals okd hp
    have J : Inv X pins σ (upd H Tp (.tup (val i))) { s with heap := h2, gens := s.gens, drawn := s.drawn, toks := tk } := by
      refine I.step (ch := wr) (fun b hb => ?_) (fun b o _ _ hb e _ => kp b o hb e) (fun b o _ _ hb e _ => ⟨o.slots, kp b o hb e⟩) (fun b o hb e n0 => by rw [upd_ne (lt b o e)]; exact n0)
        (fun b o hb e => ⟨o, kp b o hb e⟩) (fun b xs e => by rw [upd_ne (ne_of_none e hn)]; exact e) (fun b o u e => by rw [upd_ne (ne_of_none e hn)]; exact e) (fun b ps e => ⟨#[], by rw [upd_ne (ne_of_none e hn), e]; simp⟩) (fun m hm => ?_) (fun a o e => ?_) I.bare
      · obtain ⟨_, f1, _, f3, f4, f5⟩ := hf b (hsub b hb)
        exact ⟨f3, f1, f4, f5⟩
      · obtain ⟨o, es, ep, ho, r⟩ := hm
        exact ⟨o, es, ep, kp _ o (fun z => (hf _ (hsub _ z)).2.1 rfl) ho, r⟩
      · by_cases ha : a = Tp
        · subst ha
          rw [upd_same] at e
          cases e
          exact ⟨hz i, vals.toList, hv', oT, kk2 _ _ hTw eT, cT, nT, by simpa using dT⟩
        · rw [upd_ne ha] at e
          refine (I.hok a o e).stay (fun b u hb q => kp b u (nw b ?_) q) (fun b q => by rw [upd_ne (ne_of_none q hn)]; exact q) fun b xs q => by rw [upd_ne (ne_of_none q hn)]; exact q
          rcases hb with rfl | hb
          · rw [e]; simp
          · rw [hb]; simp
    refine ⟨.ref Tp, upd H Tp (.tup (val i)), J, rfl, ⟨Tp, hn, rfl, rfl⟩, st2, fun b hb => ?_⟩
    have hb1 := (hf b hb).1
    obtain ⟨o, ho, _⟩ := big i s.heap st b hb
    rw [upd_ne (lt b o ho)]
    exact hb1
  done := by
    intro X hP hw hK hc i pins s σ H E I hf st hg
    subst hP hw hK
    obtain ⟨rfl, hG⟩ := hg
    obtain ⟨dd, okd, srcd⟩ := src X pins σ H s rfl I hG
    have W0 := W X.A dd (I.ok.hd hc) okd
    have nw : ∀ b, H b ≠ none → b ∉ wr := fun b hb hm => hb (hf b (hsub b hm)).1
    refine W0.done s _ _ ⟨st, srcd⟩ fun h' tk kp => ⟨rfl, ?_⟩
    refine I.step (g' := s.gens) (d' := s.drawn) (t' := tk) (ch := wr) (fun b hb => ?_) (fun b o _ _ hb e _ => kp b o hb e) (fun b o _ _ hb e _ => ⟨o.slots, kp b o hb e⟩) (fun _ _ _ _ n0 => n0)
      (fun b o hb e => ⟨o, kp b o hb e⟩) (fun _ _ e => e) (fun _ _ _ e => e) (fun b ps e => ⟨#[], by rw [e]; simp⟩) (fun m hm => ?_) (fun a o e => ?_) I.bare
    · obtain ⟨_, f1, _, f3, f4, f5⟩ := hf b (hsub b hb)
      exact ⟨f3, f1, f4, f5⟩
    · obtain ⟨o, es, ep, ho, r⟩ := hm
      exact ⟨o, es, ep, kp _ o (fun z => (hf _ (hsub _ z)).2.1 rfl) ho, r⟩
    · refine (I.hok a o e).stay (fun b u hb q => kp b u (nw b ?_) q) (fun _ q => q) fun _ _ q => q
      rcases hb with rfl | hb
      · rw [e]; simp
      · rw [hb]; simp
  self := sf
section
variable {X : Cx}
/-- enumerate(a tuple) -/
def iEnum (K : PySem.W.Frag) (tl : TA) : TI := fun σ H R => tl σ H fun vs H1 => ∃ a xs, vs = [.ref a] ∧ SqT K H1 a xs ∧ R (Itp xs.length (fun i => [.int i, xs.getD i .non]) fun H => SqT K H a xs) H1
theorem pi_enum {l : Expr} {tl : TA} {elts : List Expr} {kt : Nat} {pt p pos : Pos} (hg : Gl X "enumerate") (hm : X.mg "enumerate" = none) (hl : PA X [l] tl) (hs : starEach [l] X.env = [(false, eval l X.env)] := by rfl) :
    PI X (.Tuple elts kt pt) (.Call (.Name "enumerate" p) [l] [] pos) (iEnum X.K tl) := by
  intro pins s σ H R I h
  refine Call_ (ld_blt I hg hm boot_enumerate (PyProof.Rows.callWith_type1 (thn (hl pos pins s σ H _ I h) fun us s1 ⟨vs, H1, I1, r1, q1⟩ => ?_) hs rfl))
  obtain ⟨a, xs, rfl, hq, q⟩ := q1
  obtain ⟨u, rfl, ru⟩ := vals1 r1
  cases ru
  obtain ⟨its, rv, ht, hz⟩ := I1.tuple hq
  have ht' : s1.heap.IsTuple a its.toArray := ht
  refine call_enum ht' fun h' he hi hsz kp => ?_
  have I2 : Inv X pins σ H1 { s1 with heap := h' } := I1.kept (t' := s1.toks) kp
  have alt : a < s1.heap.objs.size := by
    obtain ⟨o, e, _⟩ := ht'
    exact Heap.lt_size e
  refine wpAny_pyIter_enum he ?_
  refine ⟨s1.heap.objs.size + 1, [s1.heap.objs.size + 1, s1.heap.objs.size], fun i h => (∃ old, IsEnum h (s1.heap.objs.size + 1) s1.heap.objs.size i old) ∧ h.IsTupleIter s1.heap.objs.size a i, _, H1, rfl, I2, ?_, ⟨⟨_, he⟩, hi⟩, fun b hb => ?_, q⟩
  · refine turn_walkT (fpW := (s1.heap.objs.size + 1) :: [s1.heap.objs.size, a]) (wr := [s1.heap.objs.size + 1, s1.heap.objs.size]) (δ := Array Value) (Ok := fun items => Vals xs items.toList) (Src := fun items h => h.IsTuple a items)
      (Pt := fun items i vals => ∃ t x, items[i]? = some x ∧ vals = #[.int i t, x]) (Mid := fun items i T h => (∃ x, IsEnumOut h (s1.heap.objs.size + 1) s1.heap.objs.size ((i : Int) + 1) x T) ∧ (h.IsTupleIter s1.heap.objs.size a (i + 1) ∧ h.IsTuple a items) ∧ T ≠ s1.heap.objs.size + 1 ∧ T ≠ s1.heap.objs.size)
      (fun A items hA hok => ?_) (fun Y pins σ H s hK J hG => ?_) (fun items i us hok hp => ?_) (fun i => by show 2 ≤ sizeLine; decide) (by simp) (fun i h h' st k => ?_) (fun i h st b hb => ?_) (fun A i s Q E st hq => ?_) (fun b hb => hb)
    · have hn : items.size = xs.length := by have := hok.length; simp at this; exact this.symm
      have D := draws_tup (prog := X.prog) (w := X.w) (A := A.in1) (show A.in1.handled = none from hA) s1.heap.objs.size a (Nat.ne_of_lt alt) items
      have WT := WalksT.enumerateD D (s1.heap.objs.size + 1) (Nat.succ_ne_self _) (fun hm => by
        rcases List.mem_cons.mp hm with z | z
        · exact Nat.succ_ne_self _ z
        · have z' : s1.heap.objs.size + 1 = a := by simpa using z
          exact absurd alt (by rw [← z']; exact Nat.not_lt.mpr (Nat.le_succ _))) (by simp)
      rw [hn] at WT
      exact ⟨WT.sub, fun i h h' st k => by
          obtain ⟨⟨x1, x2⟩, x3⟩ := st
          obtain ⟨y1, y2, y3⟩ := WT.frame i h h' ⟨x1, x2, x3⟩ k
          exact ⟨⟨y1, y2⟩, y3⟩,
        fun i s Q E hi st hQ => WT.item i s Q E hi ⟨st.1.1, st.1.2, st.2⟩ hQ, fun e k pos i T s Q E m hQ => WT.go e k pos i T s Q E m fun h' st' kk => hQ h' ⟨⟨st'.1, st'.2.1⟩, st'.2.2⟩ kk, WT.apart,
        fun s Q E st hQ => WT.done s Q E ⟨st.1.1, st.1.2, st.2⟩ hQ, fun i s Q E st hQ => WT.self i s Q E ⟨st.1.1, st.1.2, st.2⟩ hQ⟩
    · rw [← hK] at hG
      obtain ⟨its', rv', ht', _⟩ := J.tuple hG
      exact ⟨its'.toArray, by simpa using rv', ht'⟩
    · obtain ⟨t, x, e, rfl⟩ := hp
      have e' : items.toList[i]? = some x := by simpa using e
      have hi : i < items.toList.length := (List.getElem?_eq_some_iff.mp e').1
      have hl := hok.length
      have hx : xs[i]? = some (xs.getD i .non) := by
        have : i < xs.length := by omega
        simp [this]
      obtain ⟨u, e2, ru⟩ := hok.get hx
      rw [e'] at e2
      cases e2
      exact .cons ⟨t, rfl⟩ (.cons ru .nil)
    · obtain ⟨⟨old, x1⟩, x2⟩ := st
      exact ⟨⟨old, k _ (by simp) _ x1⟩, x2.at fun o e => k _ (by simp) o e⟩
    · obtain ⟨⟨old, x1⟩, o2, x2, _, d2⟩ := st
      rcases List.mem_cons.mp hb with rfl | hb
      · exact ⟨_, x1, fun v z => by cases z⟩
      · obtain rfl : b = s1.heap.objs.size := by simpa using hb
        exact ⟨o2, x2, fun v z => by rw [d2] at z; cases z⟩
    · obtain ⟨⟨old, x1⟩, _⟩ := st
      exact wpAny_pyIter_enum x1 hq
  · have hle : s1.heap.objs.size ≤ b := by
      rcases List.mem_cons.mp hb with rfl | hb
      · omega
      · obtain rfl : b = s1.heap.objs.size := by simpa using hb
        omega
    exact I1.fpOk hle (I1.hok.fresh hle)
end
end L2

-- R3b
set_option linter.all false
set_option maxRecDepth 100000
namespace L2
open PySem PySem.Spec PyProof.Rows K2
/-! zip of two tuples of one length -/
structure Apart5 (z a b i j l m : Addr) : Prop where
  az : a ≠ z
  bz : b ≠ z
  iz : i ≠ z
  jz : j ≠ z
  ab : a ≠ b
  ai : a ≠ i
  aj : a ≠ j
  bi : b ≠ i
  bj : b ≠ j
  ij : i ≠ j
  lz : l ≠ z
  lb : l ≠ b
  li : l ≠ i
  lj : l ≠ j
  mz : m ≠ z
  mb : m ≠ b
  mi : m ≠ i
  mj : m ≠ j
theorem tupAt {h h' : Heap} {l : Addr} {xs : Array Value} (t : h.IsTuple l xs) (k : ∀ o, h.get? l = some o → h'.get? l = some o) : h'.IsTuple l xs := by
  obtain ⟨o, e, r⟩ := t
  exact ⟨o, k o e, r⟩
section
variable {prog : Program} {w : World} {A : Around} {E : Value → Shared → Prop} {s : Shared} {z a b i j l m : Addr} {k1 k2 : Nat} {xs ys : Array Value} {x y u v : Value}
theorem zipNext_item {Q : Value → Shared → Prop} (D : Apart5 z a b i j l m) (hz : IsZip s.heap z a b .none) (ha : IsPair s.heap a (.ref i) (.ref j)) (hb : IsPair s.heap b u v)
    (h1 : s.heap.IsTupleIter i l k1) (h2 : s.heap.IsTupleIter j m k2) (hl : s.heap.IsTuple l xs) (hm : s.heap.IsTuple m ys) (hx : xs[k1]? = some x) (hy : ys[k2]? = some y)
    (hQ : ∀ h', IsZip h' z a b (rawInt s.heap.objs.size) → IsPair h' b x y → h'.IsTupleIter i l (k1 + 1) → h'.IsTupleIter j m (k2 + 1) → IsPair h' s.heap.objs.size x y → h'.objs.size = s.heap.objs.size + 1 →
      (∀ c o, c ≠ z → c ≠ b → c ≠ i → c ≠ j → s.heap.get? c = some o → h'.get? c = some o) → Q (.ref s.heap.objs.size) { s with heap := h' }) :
    wpAny (model prog w) A (Builtin.«zip.__next__» ⟨[.ref z], []⟩) (fun fin s' => ∃ v, fin = .done (.ret v) ∧ Q v s') E s := by
  show wpAny _ _ (field (.ref z) 2 >>= _) _ _ _; refine wpAny_bind (wpAny_field hz rfl (x := .bool false) rfl ?_)
  show wpAny _ _ (field (.ref z) 3 >>= _) _ _ _; refine wpAny_bind (wpAny_field hz rfl (x := .ref a) rfl ?_)
  refine wpAny_bind (wpAny_seqItems ha rfl ?_); show wpAny _ _ (Builtin.SmallTypes.ownedTupleIsFree (.ref z) >>= _) _ _ _
  refine wpAny_bind ?_; unfold Builtin.SmallTypes.ownedTupleIsFree
  refine wpAny_bind (wpAny_field hz rfl (x := .none) rfl (wpAny_pure ?_)); simp only [if_true]
  refine wpAny_bind (wpAny_rule ?_); refine wpAny_bind (wpAny_field hz rfl (x := .ref b) rfl ?_)
  refine wpAny_bind (wpAny_setField_rec hz (by simp) fun g1 z1 s1 => ?_)
  have z1 : IsZip g1 z a b .ellipsis := z1
  refine wpAny_bind ?_; simp only [List.zipIdx_cons, List.zipIdx_nil, List.forIn_cons, List.forIn_nil]
  refine wpAny_bind (wpAny_bind (wpAny_onRaise ?_)); show wpAny _ _ (Builtin.SmallTypes.nextOf (.ref i) >>= _) _ _ _
  refine wpAny_bind (tupNext_item (h1.at fun o e => s1.extBut _ _ D.iz e) (tupAt hl fun o e => s1.extBut _ _ D.lz e) hx fun g2 t2 s2 => wpAny_pure ?_)
  have b2 : IsPair g2 b u v := s2.extBut _ _ D.bi (s1.extBut _ _ D.bz hb)
  refine wpAny_bind (wpAny_seqItems b2 rfl ?_); refine wpAny_bind (wpAny_updateSeq_pair b2 fun g3 b3 s3 => ?_)
  have b3 : IsPair g3 b x v := b3
  refine wpAny_bind (wpAny_letGo (wpAny_pure ?_))
  refine wpAny_bind (wpAny_bind (wpAny_onRaise ?_)); show wpAny _ _ (Builtin.SmallTypes.nextOf (.ref j) >>= _) _ _ _
  refine wpAny_bind (tupNext_item (h2.at fun o e => s3.extBut _ _ D.bj.symm (s2.extBut _ _ D.ij.symm (s1.extBut _ _ D.jz e))) (tupAt hm fun o e => s3.extBut _ _ D.mb (s2.extBut _ _ D.mi (s1.extBut _ _ D.mz e))) hy fun g4 t4 s4 => wpAny_pure ?_)
  have b4 : IsPair g4 b x v := s4.extBut _ _ D.bj b3
  refine wpAny_bind (wpAny_seqItems b4 rfl ?_); refine wpAny_bind (wpAny_updateSeq_pair b4 fun g5 b5 s5 => ?_)
  have b5 : IsPair g5 b x y := b5
  refine wpAny_bind (wpAny_letGo (wpAny_pure (wpAny_pure ?_))); refine wpAny_bind (wpAny_seqItems b5 rfl ?_)
  refine wpAny_bind (wpAny_newTuple ?_)
  have sz : g5.objs.size = s.heap.objs.size := by rw [s5.1, s4.1, s3.1, s2.1, s1.1]
  have z5 : IsZip g5 z a b .ellipsis := s5.extBut _ _ D.bz.symm (s4.extBut _ _ D.jz.symm (s3.extBut _ _ D.bz.symm (s2.extBut _ _ D.iz.symm z1)))
  have kp : ∀ c o, c ≠ z → c ≠ b → c ≠ i → c ≠ j → s.heap.get? c = some o → g5.get? c = some o := fun c o c1 c2 c3 c4 e => s5.extBut _ _ c2 (s4.extBut _ _ c4 (s3.extBut _ _ c2 (s2.extBut _ _ c3 (s1.extBut _ _ c1 e))))
  have t5 : g5.IsTupleIter i l (k1 + 1) := t2.at fun o e => s5.extBut _ _ D.bi.symm (s4.extBut _ _ D.ij (s3.extBut _ _ D.bi.symm e))
  have r5 : g5.IsTupleIter j m (k2 + 1) := t4.at fun o e => s5.extBut _ _ D.bj.symm e
  have zlt : z < g5.objs.size := Heap.lt_size z5
  show wpAny _ _ (Builtin.SmallTypes.ownedTupleHandOut (.ref z) (.ref g5.objs.size) >>= _) _ _ _
  refine wpAny_bind ?_; unfold Builtin.SmallTypes.ownedTupleHandOut
  have z6 : IsZip (g5.push { cls := .type "tuple", data := .seq #[x, y] }) z a b .ellipsis := Heap.get?_push_of_some _ z5
  refine wpAny_bind (wpAny_setField_rec z6 (by simp) fun g7 z7 s7 => ?_)
  have z7 : IsZip g7 z a b (rawInt g5.objs.size) := z7
  refine wpAny_setField_rec z7 (by simp) fun g8 z8 s8 => ?_
  have z8 : IsZip g8 z a b (rawInt g5.objs.size) := z8
  have up : ∀ c o, c ≠ z → g5.get? c = some o → g8.get? c = some o := fun c o c1 e => s8.extBut _ _ c1 (s7.extBut _ _ c1 (Heap.get?_push_of_some _ e))
  have p8 : IsPair g8 g5.objs.size x y := s8.extBut _ _ (Nat.ne_of_gt zlt) (s7.extBut _ _ (Nat.ne_of_gt zlt) (Heap.get?_push_size _ rfl))
  have n8 : g8.objs.size = g5.objs.size + 1 := by rw [s8.1, s7.1, Heap.size_push]
  rw [sz] at z8 p8 n8
  refine wpAny_pure ⟨_, rfl, ?_⟩
  show Q (.ref g5.objs.size) _
  rw [sz]
  exact hQ g8 z8 (up _ _ D.bz b5) (t5.at fun o e => up _ o D.iz e) (r5.at fun o e => up _ o D.jz e) p8 n8 fun c o c1 c2 c3 c4 e => up c o c1 (kp c o c1 c2 c3 c4 e)
theorem zipNext_end {Q : Fin → Shared → Prop} (hh : A.handled = none) (D : Apart5 z a b i j l m) (hz : IsZip s.heap z a b .none) (ha : IsPair s.heap a (.ref i) (.ref j)) (hb : IsPair s.heap b u v)
    (h1 : s.heap.IsTupleIter i l k1) (hl : s.heap.IsTuple l xs) (hx : xs[k1]? = none)
    (hE : ∀ h' e, (∀ c o, c ≠ z → c ≠ b → c ≠ i → c ≠ j → s.heap.get? c = some o → h'.get? c = some o) → (∃ o, h'.get? e = some o ∧ o.cls = .type "StopIteration") → E (.ref e) { s with heap := h' }) :
    wpAny (model prog w) A (Builtin.«zip.__next__» ⟨[.ref z], []⟩) Q E s := by
  show wpAny _ _ (field (.ref z) 2 >>= _) _ _ _; refine wpAny_bind (wpAny_field hz rfl (x := .bool false) rfl ?_)
  show wpAny _ _ (field (.ref z) 3 >>= _) _ _ _; refine wpAny_bind (wpAny_field hz rfl (x := .ref a) rfl ?_)
  refine wpAny_bind (wpAny_seqItems ha rfl ?_); show wpAny _ _ (Builtin.SmallTypes.ownedTupleIsFree (.ref z) >>= _) _ _ _
  refine wpAny_bind ?_; unfold Builtin.SmallTypes.ownedTupleIsFree
  refine wpAny_bind (wpAny_field hz rfl (x := .none) rfl (wpAny_pure ?_)); simp only [if_true]
  refine wpAny_bind (wpAny_rule ?_); refine wpAny_bind (wpAny_field hz rfl (x := .ref b) rfl ?_)
  refine wpAny_bind (wpAny_setField_rec hz (by simp) fun g1 z1 s1 => ?_)
  have z1 : IsZip g1 z a b .ellipsis := z1
  refine wpAny_bind ?_; simp only [List.zipIdx_cons, List.zipIdx_nil, List.forIn_cons, List.forIn_nil]
  refine wpAny_bind (wpAny_bind (wpAny_onRaise ?_)); show wpAny _ _ (Builtin.SmallTypes.nextOf (.ref i) >>= _) _ _ _
  refine wpAny_bind (tupNext_end hh (h1.at fun o e => s1.extBut _ _ D.iz e) (tupAt hl fun o e => s1.extBut _ _ D.lz e) hx fun g2 e s2 he => ?_)
  obtain ⟨oe, hoe, hce⟩ := he
  have z2 : IsZip g2 z a b .ellipsis := s2 _ _ D.iz.symm z1
  have ez : e ≠ z := fun q => by subst q; rw [z2] at hoe; cases hoe; simp at hce
  exact wpAny_setField_rec z2 (by simp) fun g3 _ s3 => hE g3 e (fun c o c1 _ c3 _ q => s3.extBut _ _ c1 (s2 _ _ c3 (s1.extBut _ _ c1 q))) ⟨oe, s3.extBut _ _ ez hoe, hce⟩
end
theorem zip_new (l m : Addr) (xs ys : Array Value) : Meets (Builtin.«zip.__new__» ⟨[.type "zip", .ref l, .ref m], []⟩) (fun _ R s => s.heap.IsTuple l xs ∧ s.heap.IsTuple m ys ∧
    ∀ h1 h2 h3 h4 h5, h1 = s.heap.push { cls := .type "tuple_iterator", data := .fields #[.ref l, .int 0 0] } → h2 = h1.push { cls := .type "tuple_iterator", data := .fields #[.ref m, .int 0 0] } →
      h3 = h2.push { cls := .type "tuple", data := .seq #[.ref s.heap.objs.size, .ref h1.objs.size] } → h4 = h3.push { cls := .type "tuple", data := .seq #[.none, .none] } →
      h5 = h4.push { cls := .type "zip", data := .fields #[.none, .bool false, .bool false, .ref h2.objs.size, .ref h3.objs.size] } → R (.ok (.ret (.ref h4.objs.size))) { s with heap := h5 }) :=
  .of_wp fun prog w A R s h => by
    obtain ⟨hp, g, d, tk, os⟩ := s
    obtain ⟨hl1, hl2, h⟩ := h
    have hsub := sub_zip
    have hL1 : Heap.IsTuple (Shared.heap ⟨hp, g, d, tk, os⟩) l xs := hl1
    have hL2 : Heap.IsTuple (Shared.heap ⟨hp.push { cls := .type "tuple_iterator", data := .fields #[.ref l, .int 0 0] }, g, d, tk, os⟩) m ys := tupAt hl2 fun o e => Heap.get?_push_of_some _ e
    wp_walk using wpAny_pyIter_tuple hL1, wpAny_pyIter_tuple hL2
    exact ⟨_, rfl, h _ _ _ _ _ rfl rfl rfl rfl rfl⟩
section
variable {prog : Program} {w : World} {A : Around} {E : Value → Shared → Prop} {s : Shared}
theorem call_zipT {l m : Addr} {xs ys : Array Value} {Q : Value → Shared → Prop} (hl : s.heap.IsTuple l xs) (hm : s.heap.IsTuple m ys)
    (h : ∀ h', IsZip h' (s.heap.objs.size + 4) (s.heap.objs.size + 2) (s.heap.objs.size + 3) .none → IsPair h' (s.heap.objs.size + 2) (.ref s.heap.objs.size) (.ref (s.heap.objs.size + 1)) → IsPair h' (s.heap.objs.size + 3) .none .none →
      h'.IsTupleIter s.heap.objs.size l 0 → h'.IsTupleIter (s.heap.objs.size + 1) m 0 → (∀ c o, s.heap.get? c = some o → h'.get? c = some o) → Q (.ref (s.heap.objs.size + 4)) { s with heap := h' }) :
    wpAny (model prog w) A (call (.type "zip") [.ref l, .ref m]) Q E s := by
  refine callType_new F.called_zip (by decide) (F.typeCall_zip_2 _ _) (F.newCall_zip_2 _ _) (fun obj => F.args_object_init_3 obj _ _) F.entry_zip_new (zip_new l m xs ys) ⟨hl, hm, ?_⟩
  intro h1 h2 h3 h4 h5 e1 e2 e3 e4 e5
  have n1 : h1.objs.size = s.heap.objs.size + 1 := by rw [e1, Heap.size_push]
  have n2 : h2.objs.size = s.heap.objs.size + 2 := by rw [e2, Heap.size_push, n1]
  have n3 : h3.objs.size = s.heap.objs.size + 3 := by rw [e3, Heap.size_push, n2]
  have n4 : h4.objs.size = s.heap.objs.size + 4 := by rw [e4, Heap.size_push, n3]
  have up5 : ∀ c o, h4.get? c = some o → h5.get? c = some o := fun c o q => by rw [e5]; exact Heap.get?_push_of_some _ q
  have up4 : ∀ c o, h3.get? c = some o → h5.get? c = some o := fun c o q => up5 c o (by rw [e4]; exact Heap.get?_push_of_some _ q)
  have up3 : ∀ c o, h2.get? c = some o → h5.get? c = some o := fun c o q => up4 c o (by rw [e3]; exact Heap.get?_push_of_some _ q)
  have up2 : ∀ c o, h1.get? c = some o → h5.get? c = some o := fun c o q => up3 c o (by rw [e2]; exact Heap.get?_push_of_some _ q)
  have up1 : ∀ c o, s.heap.get? c = some o → h5.get? c = some o := fun c o q => up2 c o (by rw [e1]; exact Heap.get?_push_of_some _ q)
  have g5 : IsZip h5 (s.heap.objs.size + 4) (s.heap.objs.size + 2) (s.heap.objs.size + 3) .none := by
    rw [← n4, ← n3, ← n2, e5]; exact Heap.get?_push_size _ rfl
  have g4 : IsPair h5 (s.heap.objs.size + 3) .none .none := up5 _ _ (by rw [← n3, e4]; exact Heap.get?_push_size _ rfl)
  have g3 : IsPair h5 (s.heap.objs.size + 2) (.ref s.heap.objs.size) (.ref (s.heap.objs.size + 1)) := up4 _ _ (by rw [← n2, ← n1, e3]; exact Heap.get?_push_size _ rfl)
  have g2 : h5.IsTupleIter (s.heap.objs.size + 1) m 0 := ⟨_, up3 _ _ (by rw [← n1, e2]; exact Heap.get?_push_size _ rfl), rfl, rfl⟩
  have g1 : h5.IsTupleIter s.heap.objs.size l 0 := ⟨_, up2 _ _ (by rw [e1]; exact Heap.get?_push_size _ rfl), rfl, rfl⟩
  rw [n4]
  exact ⟨⟨_, g5, rfl⟩, h _ g5 g3 g4 g1 g2 up1⟩
theorem walks_zip (hh : A.handled = none) (z a b i j l m : Addr) (D : Apart5 z a b i j l m) (xs ys : Array Value) (hsz : xs.size = ys.size) :
    WalksT prog w A z [z, a, b, i, j, l, m] [z, b, i, j] xs.size (fun k vals => ∃ x y, xs[k]? = some x ∧ ys[k]? = some y ∧ vals = #[x, y])
      (fun k h => (IsZip h z a b .none ∧ IsPair h a (.ref i) (.ref j) ∧ (∃ u v, IsPair h b u v) ∧ h.IsTupleIter i l k ∧ h.IsTupleIter j m k) ∧ h.IsTuple l xs ∧ h.IsTuple m ys)
      (fun k T h => IsZip h z a b (rawInt T) ∧ IsPair h a (.ref i) (.ref j) ∧ (∃ u v, IsPair h b u v) ∧ h.IsTupleIter i l (k + 1) ∧ h.IsTupleIter j m (k + 1) ∧ h.IsTuple l xs ∧ h.IsTuple m ys ∧ T ≠ z ∧ T ≠ b ∧ T ≠ i ∧ T ≠ j) where
  sub := fun c hc => by
    simp only [List.mem_cons, List.not_mem_nil, or_false] at hc ⊢
    rcases hc with q | q | q | q <;> simp [q]
  frame := fun k h h' st kp => by
    obtain ⟨⟨x1, x2, ⟨u, v, x3⟩, x4, x5⟩, x6, x7⟩ := st
    exact ⟨⟨kp z (by simp) _ x1, kp a (by simp) _ x2, ⟨u, v, kp b (by simp) _ x3⟩, x4.at fun o e => kp i (by simp) o e, x5.at fun o e => kp j (by simp) o e⟩, tupAt x6 fun o e => kp l (by simp) o e, tupAt x7 fun o e => kp m (by simp) o e⟩
  item := fun k s Q E hk st hQ => by
    obtain ⟨⟨x1, x2, ⟨u, v, x3⟩, x4, x5⟩, x6, x7⟩ := st
    have hT : s.TypeIs (.ref z) "zip" := ⟨_, x1, rfl⟩
    have ky : k < ys.size := by omega
    unfold pyNext
    refine wpAny_bind (wpAny_attempt (wpAny_callSpecial?_slot (name := Str.ofString "__next__") hT F.slot_zip_next (wpAny_call_entry F.slot_zip_next hT F.entry_zip_next (zipNext_item D x1 x2 x3 x4 x5 x6 x7 (Array.getElem?_eq_getElem hk) (Array.getElem?_eq_getElem ky) fun h' a1 a2 a3 a4 a5 a6 kp => wpAny_pure ?_) (F.args_zip_next_1 _))))
    have lt : ∀ {c o}, s.heap.get? c = some o → s.heap.objs.size ≠ c := fun e => Nat.ne_of_gt (Heap.lt_size e)
    refine hQ s.heap.objs.size #[xs[k], ys[k]] h' s.toks ⟨_, _, Array.getElem?_eq_getElem hk, Array.getElem?_eq_getElem ky, rfl⟩ (Nat.le_refl _) ⟨_, a5, rfl, _, rfl⟩
      ⟨a1, kp _ _ D.az D.ab D.ai D.aj x2, ⟨_, _, a2⟩, a3, a4, tupAt x6 fun o e => kp _ o D.lz D.lb D.li D.lj e, tupAt x7 fun o e => kp _ o D.mz D.mb D.mi D.mj e, lt x1, lt x3, ?_, ?_⟩ fun c o hc e => kp c o (fun q => hc (by simp [q])) (fun q => hc (by simp [q])) (fun q => hc (by simp [q])) (fun q => hc (by simp [q])) e
    · obtain ⟨_, e, _⟩ := x4; exact lt e
    · obtain ⟨_, e, _⟩ := x5; exact lt e
  go := fun elts kk pos k T s Q E md hQ => by
    obtain ⟨x1, x2, ⟨u, v, x3⟩, x4, x5, x6, x7, _⟩ := md
    exact wpAny_letOwnedTupleGo_zip x1 fun h' z' s' => hQ h' ⟨⟨z', s'.extBut _ _ D.az x2, ⟨u, v, s'.extBut _ _ D.bz x3⟩, x4.at fun o e => s'.extBut _ _ D.iz e, x5.at fun o e => s'.extBut _ _ D.jz e⟩, tupAt x6 fun o e => s'.extBut _ _ D.lz e, tupAt x7 fun o e => s'.extBut _ _ D.mz e⟩ fun c o hc e => s'.extBut _ _ (fun q => hc (by simp [q])) e
  apart := fun k T h md hT => by
    obtain ⟨_, _, _, _, _, _, _, t1, t2, t3, t4⟩ := md
    simp at hT
    rcases hT with q | q | q | q
    · exact t1 q
    · exact t2 q
    · exact t3 q
    · exact t4 q
  done := fun s Q E st hQ => by
    obtain ⟨⟨x1, x2, ⟨u, v, x3⟩, x4, x5⟩, x6, x7⟩ := st
    have hT : s.TypeIs (.ref z) "zip" := ⟨_, x1, rfl⟩
    unfold pyNext
    refine wpAny_bind (wpAny_attempt (wpAny_callSpecial?_slot (name := Str.ofString "__next__") hT F.slot_zip_next (wpAny_call_entry F.slot_zip_next hT F.entry_zip_next (zipNext_end (A := A.in1) hh D x1 x2 x3 x4 x6 (Array.getElem?_eq_none (Nat.le_refl _)) fun h' e kp he => ?_) (F.args_zip_next_1 _))))
    obtain ⟨o, ho, hc⟩ := he
    refine wpAny_bind (wpAny_isInstance (T := "StopIteration") (b := true) ⟨o, ho, hc⟩ isSubtype_stop ?_)
    exact wpAny_pure (hQ _ s.toks fun c o hc e => kp c o (fun q => hc (by simp [q])) (fun q => hc (by simp [q])) (fun q => hc (by simp [q])) (fun q => hc (by simp [q])) e)
  self := fun k s Q E st hQ => wpAny_pyIter_zip st.1.1 hQ
end
section
variable {X : Cx}
/-- zip(two tuples of one length) -/
def iZip (K : PySem.W.Frag) (tl : TA) : TI := fun σ H R => tl σ H fun vs H1 => ∃ a b xs ys, vs = [.ref a, .ref b] ∧ SqT K H1 a xs ∧ SqT K H1 b ys ∧ xs.length = ys.length ∧ R (Itp xs.length (fun i => [xs.getD i .non, ys.getD i .non]) fun H => SqT K H a xs ∧ SqT K H b ys) H1
theorem pi_zip {l l' : Expr} {tl : TA} {elts : List Expr} {kt : Nat} {pt p pos : Pos} (hg : Gl X "zip") (hm : X.mg "zip" = none) (hl : PA X [l, l'] tl) (hs : starEach [l, l'] X.env = [(false, eval l X.env), (false, eval l' X.env)] := by rfl) (hs2 : starEach [l'] X.env = [(false, eval l' X.env)] := by rfl) :
    PI X (.Tuple elts kt pt) (.Call (.Name "zip" p) [l, l'] [] pos) (iZip X.K tl) := by
  intro pins s σ H R I h
  refine Call_ (ld_blt I hg hm boot_zip (PyProof.Rows.callWith_type1 (thn (hl pos pins s σ H _ I h) fun us s1 ⟨vs, H1, I1, r1, q1⟩ => ?_) (by rw [hs, hs2]) (by rw [hs2]; rfl)))
  obtain ⟨a, b, xs, ys, rfl, hq1, hq2, hlen, q⟩ := q1
  obtain ⟨u, v, rfl, ru, rv⟩ := vals2 r1
  cases ru
  cases rv
  obtain ⟨its, w1, t1, z1⟩ := I1.tuple hq1
  obtain ⟨jts, w2, t2, z2⟩ := I1.tuple hq2
  have t1' : s1.heap.IsTuple a its.toArray := t1
  have t2' : s1.heap.IsTuple b jts.toArray := t2
  refine call_zipT t1' t2' fun h' y1 y2 y3 y4 y5 kp => ?_
  have I2 : Inv X pins σ H1 { s1 with heap := h' } := I1.kept (t' := s1.toks) kp
  have lta : a < s1.heap.objs.size := by obtain ⟨o, e, _⟩ := t1'; exact Heap.lt_size e
  have ltb : b < s1.heap.objs.size := by obtain ⟨o, e, _⟩ := t2'; exact Heap.lt_size e
  generalize hN : s1.heap.objs.size = N at y1 y2 y3 y4 y5 lta ltb ⊢
  have lta : @LT.lt Nat _ a N := lta
  have ltb : @LT.lt Nat _ b N := ltb
  have D : Apart5 (N + 4) (N + 2) (N + 3) N (N + 1) a b := by
    constructor <;> (show (_ : Nat) ≠ _; omega)
  refine wpAny_pyIter_zip y1 ?_
  refine ⟨N + 4, [N + 4, N + 2, N + 3, N, N + 1], fun k h => IsZip h (N + 4) (N + 2) (N + 3) .none ∧ IsPair h (N + 2) (.ref N) (.ref (N + 1)) ∧ (∃ u v, IsPair h (N + 3) u v) ∧ h.IsTupleIter N a k ∧ h.IsTupleIter (N + 1) b k, _, H1, rfl, I2, ?_, ⟨y1, y2, ⟨_, _, y3⟩, y4, y5⟩, fun c hc => ?_, q⟩
  · refine turn_walkT (fpW := [N + 4, N + 2, N + 3, N, N + 1, a, b]) (wr := [N + 4, N + 3, N, N + 1]) (δ := Array Value × Array Value) (Ok := fun d => Vals xs d.1.toList ∧ Vals ys d.2.toList) (Src := fun d h => h.IsTuple a d.1 ∧ h.IsTuple b d.2)
      (Pt := fun d k vals => ∃ x y, d.1[k]? = some x ∧ d.2[k]? = some y ∧ vals = #[x, y])
      (Mid := fun d k T h => IsZip h (N + 4) (N + 2) (N + 3) (rawInt T) ∧ IsPair h (N + 2) (.ref N) (.ref (N + 1)) ∧ (∃ u v, IsPair h (N + 3) u v) ∧ h.IsTupleIter N a (k + 1) ∧ h.IsTupleIter (N + 1) b (k + 1) ∧ h.IsTuple a d.1 ∧ h.IsTuple b d.2 ∧ T ≠ N + 4 ∧ T ≠ N + 3 ∧ T ≠ N ∧ T ≠ N + 1)
      (fun A d hA hok => ?_) (fun Y pins σ H s hK J hG => ?_) (fun d k us hok hp => ?_) (fun i => by show 2 ≤ sizeLine; decide) (by simp) (fun k h h' st kk => ?_) (fun k h st c hc => ?_) (fun A k s Q E st hq => wpAny_pyIter_zip st.1 hq) (fun c hc => ?_)
    · have e1 : d.1.size = xs.length := by have := hok.1.length; simp at this; exact this.symm
      have e2 : d.2.size = ys.length := by have := hok.2.length; simp at this; exact this.symm
      have WT := walks_zip (prog := X.prog) (w := X.w) hA (N + 4) (N + 2) (N + 3) N (N + 1) a b D d.1 d.2 (by omega)
      rw [e1] at WT
      exact WT
    · rw [← hK] at hG
      obtain ⟨i1, v1, u1, _⟩ := J.tuple hG.1
      obtain ⟨i2, v2, u2, _⟩ := J.tuple hG.2
      exact ⟨(i1.toArray, i2.toArray), ⟨by simpa using v1, by simpa using v2⟩, u1, u2⟩
    · obtain ⟨x, y, ex, ey, rfl⟩ := hp
      have ex' : d.1.toList[k]? = some x := by simpa using ex
      have ey' : d.2.toList[k]? = some y := by simpa using ey
      have hi : k < d.1.toList.length := (List.getElem?_eq_some_iff.mp ex').1
      have hl1 := hok.1.length
      have hl2 := hok.2.length
      have hx : xs[k]? = some (xs.getD k .non) := by
        have : k < xs.length := by omega
        simp [this]
      have hy : ys[k]? = some (ys.getD k .non) := by
        have : k < ys.length := by omega
        simp [this]
      obtain ⟨u1, g1, ru1⟩ := hok.1.get hx
      obtain ⟨u2, g2, ru2⟩ := hok.2.get hy
      rw [ex'] at g1
      rw [ey'] at g2
      cases g1
      cases g2
      exact .cons ru1 (.cons ru2 .nil)
    · obtain ⟨x1, x2, ⟨u, v, x3⟩, x4, x5⟩ := st
      exact ⟨kk _ (by simp) _ x1, kk _ (by simp) _ x2, ⟨u, v, kk _ (by simp) _ x3⟩, x4.at fun o e => kk _ (by simp) o e, x5.at fun o e => kk _ (by simp) o e⟩
    · obtain ⟨x1, x2, ⟨u, v, x3⟩, ⟨o4, x4, _, d4⟩, ⟨o5, x5, _, d5⟩⟩ := st
      simp only [List.mem_cons, List.not_mem_nil, or_false] at hc
      rcases hc with rfl | rfl | rfl | rfl | rfl
      · exact ⟨_, x1, fun v z => by cases z⟩
      · exact ⟨_, x2, fun v z => by cases z⟩
      · exact ⟨_, x3, fun v z => by cases z⟩
      · exact ⟨o4, x4, fun v z => by rw [d4] at z; cases z⟩
      · exact ⟨o5, x5, fun v z => by rw [d5] at z; cases z⟩
    · simp only [List.mem_cons, List.not_mem_nil, or_false] at hc ⊢
      rcases hc with q | q | q | q <;> simp [q]
  · have hle : s1.heap.objs.size ≤ c := by
      rw [hN]
      simp only [List.mem_cons, List.not_mem_nil, or_false] at hc
      rcases hc with rfl | rfl | rfl | rfl | rfl
      · exact Nat.le_add_right _ _
      · exact Nat.le_add_right _ _
      · exact Nat.le_add_right _ _
      · exact Nat.le_refl _
      · exact Nat.le_add_right _ _
    exact I1.fpOk hle (I1.hok.fresh hle)
end
end L2

-- R4
set_option linter.all false
set_option maxRecDepth 100000
/-! exceptions: where one stands, how it leaves, how it is told -/
namespace L2
open PySem PySem.Spec PyProof.Rows

/-- the exception at e, of class C, made since B; tb: it has a traceback for sure -/
def ExcIn (B : Heap) (e : Addr) (C : Value) (tb : Bool) (h : Heap) : Prop :=
  B.get? e = none ∧ ∃ oe vs a0, h.get? e = some oe ∧ oe.cls = C ∧ oe.data = .fields vs ∧ vs[0]? = some a0 ∧
    ((tb = false ∧ vs[1]? = some .none) ∨ ∃ T oT ts fl, vs[1]? = some (.ref T) ∧ B.get? T = none ∧ T ≠ e ∧ h.get? T = some oT ∧ oT.data = .fields ts ∧ ts[3]? = some fl)
theorem ExcIn.any {B : Heap} {e : Addr} {C : Value} {tb : Bool} {h : Heap} (x : ExcIn B e C true h) : ExcIn B e C tb h := by
  obtain ⟨hb, oe, vs, a0, he, hc, hd, h0, ⟨z, _⟩ | z⟩ := x
  · cases z
  · exact ⟨hb, oe, vs, a0, he, hc, hd, h0, .inr z⟩
theorem ExcIn.of_traced {B h : Heap} {e : Addr} {C a0 fl : Value} (hb : B.get? e = none) (t : h.TracedAtW B e C a0 fl) : ExcIn B e C true h := by
  obtain ⟨oe, vs, T, oT, ts, he, ⟨hc, h0⟩, hd, h1, hn, hne, hT, hdT, h3⟩ := t
  exact ⟨hb, oe, vs, a0, he, hc, hd, h0, .inr ⟨T, oT, ts, fl, h1, hn, hne, hT, hdT, h3⟩⟩
theorem note_same {e : Value} {env env' : Env} (h : env'.frame = env.frame) : noteFrame e env' = noteFrame e env := by
  unfold noteFrame PySem.frameOf; rw [h]
section
variable {M : Model} {A : Around} {E : Value → Shared → Prop} {s : Shared} {B : Heap} {env : Env} {outer l : List Env} {L e : Addr} {C : Value} {tb : Bool}
theorem exc_note {Q : Unit → Shared → Prop} (hfr : A.frames = some (env :: outer)) (hf : env.frame = some L) (hst : B.StaysIn s.heap) (hl : s.heap.FunFrames B (env :: outer)) (x : ExcIn B e C tb s.heap)
    (hQ : ∀ h', B.StaysIn h' → h'.FunFrames B (env :: outer) → ExcIn B e C true h' → s.heap.UpToSlots h' → Q () { s with heap := h' }) : wpAny M A (noteFrame (.ref e) env) Q E s := by
  obtain ⟨hb, oe, vs, a0, he, hc, hd, h0, ⟨_, h1⟩ | ⟨T, oT, ts, fl, h1, hnT, hTe, hT, hdT, h3⟩⟩ := x
  · subst hc
    unfold noteFrame; simp only [hf]; refine wpAny_bind (wpAny_field he hd h1 ?_); rw [if_neg (by decide)]
    exact wpAny_entryW hfr hl hf he hst hb hd (Array.getElem?_eq_some_iff.mp h1).1 h0 fun h' ⟨k1, k2, k3, k4⟩ => hQ h' k1 k2 (.of_traced hb k3) k4
  · by_cases hq : fl = rawInt L
    · subst hq
      exact wpAny_noteFrame_againW (base := B) (cls := C) (a0 := a0) hf ⟨oe, vs, T, oT, ts, he, ⟨hc, h0⟩, hd, h1, hnT, hTe, hT, hdT, h3⟩
        (hQ s.heap hst hl ⟨hb, oe, vs, a0, he, hc, hd, h0, .inr ⟨T, oT, ts, _, h1, hnT, hTe, hT, hdT, h3⟩⟩ (.refl _))
    · subst hc
      unfold noteFrame; simp only [hf]; refine wpAny_bind (wpAny_field he hd h1 ?_); rw [if_pos (by simp)]; refine wpAny_bind (wpAny_field hT hdT h3 ?_)
      rw [if_neg (by simpa using hq)]; refine wpAny_bind (wpAny_setField hT hdT (Array.getElem?_eq_some_iff.mp h3).1 ?_)
      have oth : ∀ z, z ≠ T → (s.heap.update T (Obj.mapFields (·.setIfInBounds 3 Value.none))).get? z = s.heap.get? z := fun z hz => Heap.get?_update_other _ _ (Ne.symm hz)
      have nT : ∀ z ob, s.heap.get? z = some ob → (∀ us, ob.data ≠ .fields us) → z ≠ T := fun z ob q hn zT => by
        subst zT; rw [hT] at q; cases q; exact hn ts hdT
      refine wpAny_entryW hfr (hl.of_keeps fun z ob q hn => ⟨ob, (oth z (nT z ob q hn)).trans q, rfl⟩) hf ((oth e (Ne.symm hTe)).trans he) (fun z ob q => (oth z fun zT => by subst zT; rw [hnT] at q; cases q).trans (hst z ob q)) hb hd
        (Array.getElem?_eq_some_iff.mp h1).1 h0 fun h' ⟨k1, k2, k3, k4⟩ => hQ h' k1 k2 (.of_traced hb k3) fun z ob q hn => k4 z ob ((oth z (nT z ob q hn)).trans q) hn
theorem exc_flight {Q : Unit → Shared → Prop} {fr : Option Addr} (hst : B.StaysIn s.heap) (hl : s.heap.FunFrames B l) (x : ExcIn B e C tb s.heap)
    (hQ : ∀ h', B.StaysIn h' → h'.FunFrames B l → ExcIn B e C tb h' → s.heap.UpToSlots h' → Q () { s with heap := h' }) : wpAny M A (setFlight (.ref e) fr) Q E s := by
  have x' := x
  obtain ⟨hb, oe, vs, a0, he, hc, hd, h0, ⟨_, h1⟩ | ⟨T, oT, ts, fl, h1, hnT, hTe, hT, hdT, h3⟩⟩ := x
  · unfold setFlight; refine wpAny_bind (wpAny_field he hd h1 ?_); rw [if_neg (by decide)]
    exact wpAny_pure (hQ s.heap hst hl x' (.refl _))
  · have oth : ∀ (u : Value) z, z ≠ T → (s.heap.update T (Obj.mapFields (·.setIfInBounds 3 u))).get? z = s.heap.get? z := fun u z hz => Heap.get?_update_other _ _ (Ne.symm hz)
    have nT : ∀ z ob, s.heap.get? z = some ob → (∀ us, ob.data ≠ .fields us) → z ≠ T := fun z ob q hn zT => by
      subst zT; rw [hT] at q; cases q; exact hn ts hdT
    have h3' := (Array.getElem?_eq_some_iff.mp h3).1
    unfold setFlight; refine wpAny_bind (wpAny_field he hd h1 ?_); rw [if_pos (by simp)]
    refine wpAny_setField hT hdT h3' (hQ _ (fun z ob q => (oth _ z fun zT => by subst zT; rw [hnT] at q; cases q).trans (hst z ob q)) (hl.of_keeps fun z ob q hn => ⟨ob, (oth _ z (nT z ob q hn)).trans q, rfl⟩) ?_ fun z ob q hn => ⟨ob.slots, (oth _ z (nT z ob q hn)).trans q⟩)
    exact ⟨hb, oe, vs, a0, (oth _ e (Ne.symm hTe)).trans he, hc, hd, h0, .inr ⟨T, _, _, (fr.elim Value.none fun f => rawInt f), h1, hnT, hTe, Heap.get?_update_self _ hT (Obj.isFreed_of_fields (Obj.data_mapFields hdT _)), Obj.data_mapFields hdT _, by simp [h3']⟩⟩
theorem exc_field {Q : Value → Shared → Prop} (x : ExcIn B e C true s.heap) (hQ : ∀ u, (u == Value.none) = false → Q u s) : wpAny M A (field (.ref e) 1) Q E s := by
  obtain ⟨hb, oe, vs, a0, he, hc, hd, h0, ⟨z, _⟩ | ⟨T, oT, ts, fl, h1, _⟩⟩ := x
  · cases z
  · exact wpAny_field he hd h1 (hQ _ (by simp))
end
theorem ObjOk.there {P : Program} {w : World} {H : Hp} {h : Heap} {a : Addr} {o : HO} (x : ObjOk P w H h a o) : ∃ ob, h.get? a = some ob := by
  cases o with
  | lst xs => obtain ⟨_, _, _, _, e⟩ := x; exact ⟨_, e⟩
  | tup xs => obtain ⟨_, _, _, ob, e, _⟩ := x; exact ⟨_, e⟩
  | dK kvs => obtain ⟨_, _, _, _, ob, _, _, e, _⟩ := x; exact ⟨_, e⟩
  | dT kvs => obtain ⟨_, _, _, _, ob, _, _, e, _⟩ := x; exact ⟨_, e⟩
  | set S n => obtain ⟨ob, _, _, _, e, _⟩ := x; exact ⟨_, e⟩
  | ins C dx fs => obtain ⟨_, _, _, e, _⟩ := x; exact ⟨_, e⟩
  | own y => exact x
  | xd fs => obtain ⟨_, ⟨_, _, _, e, _⟩, _⟩ := x; exact ⟨_, e⟩
  | rng lo hi => obtain ⟨_, _, _, e⟩ := x; exact ⟨_, e⟩
  | frz ob u => obtain ⟨e, _⟩ := x; exact ⟨_, e⟩
  | tbl ps => exact ⟨_, x⟩
  | met f y => exact ⟨_, x⟩
  | ext φ => exact x.2.1

/-- in flight: from s₀, H₀ to s', H'; all that B holds stays, the frames of l but for their slots -/
structure Fly (P : Program) (w : World) (fs ex : List Addr) (H₀ H' : Hp) (s₀ : Shared) (l : List Env) (B : Heap) (s' : Shared) : Prop where
  os : s'.os = s₀.os
  bare : AllBare s'.gens
  un : Un fs ex H₀ H' s₀.heap s'.heap
  hok : HOk P w H' s'.heap
  stay : B.StaysIn s'.heap
  frm : s'.heap.FunFrames B l
  old : ∀ b o, s₀.heap.get? b = some o → b ∉ frs l → b ∉ ex → ∃ ob, B.get? b = some ob
  trk : ∀ b o, H' b = some o → ∃ ob, B.get? b = some ob
  sub : ∀ b ∈ fs, b ∈ frs l
  new : ∀ b ∈ frs l, b ∉ fs → s₀.heap.get? b = none
section
variable {P : Program} {w : World} {fs ex : List Addr} {H₀ H' : Hp} {s₀ s' : Shared} {l : List Env} {B h' : Heap}
theorem Fly.go (F : Fly P w fs ex H₀ H' s₀ l B s') (k1 : B.StaysIn h') (k2 : h'.FunFrames B l) (k3 : s'.heap.UpToSlots h') : Fly P w fs ex H₀ H' s₀ l B { s' with heap := h' } := by
  have inB : ∀ b ob o, B.get? b = some ob → s'.heap.get? b = some o → h'.get? b = some o := fun b ob o q q' => by
    have q2 := F.stay b ob q
    rw [q'] at q2; cases q2; exact k1 b _ q
  have fr : ∀ b o, b ∈ frs l → s'.heap.get? b = some o → ∃ sl, h'.get? b = some { o with slots := sl } := fun b o hb q => by
    obtain ⟨_, o2, q2, hn⟩ := F.frm.mem hb
    rw [q] at q2; cases q2; exact k3 b o q hn
  refine ⟨F.os, F.bare, ⟨fun b o q n hb hx => ?_, fun b o q n hb hx => ?_, F.un.free, fun b o q hx => ?_, F.un.tups, F.un.frzs, F.un.tbls⟩, fun b o q => ?_, k1, k2, F.old, F.trk, F.sub, F.new⟩
  · by_cases hl : b ∈ frs l
    · rw [F.new b hl hb] at q; cases q
    · obtain ⟨ob, qb⟩ := F.old b o q hl hx
      exact inB b ob o qb (F.un.keep b o q n hb hx)
  · obtain ⟨sl, q1⟩ := F.un.slot b o q n hb hx
    obtain ⟨sl2, q2⟩ := fr b _ (F.sub b hb) q1
    exact ⟨sl2, q2⟩
  · obtain ⟨o1, q1⟩ := F.un.there b o q hx
    by_cases hl : b ∈ frs l
    · obtain ⟨sl, q2⟩ := fr b _ hl q1
      exact ⟨_, q2⟩
    · obtain ⟨ob, qb⟩ := F.old b o q hl hx
      exact ⟨_, inB b ob o1 qb q1⟩
  · refine (F.hok b o q).stay (fun c u hc qc => ?_) (fun _ z => z) fun _ _ z => z
    have : ∃ oc, H' c = some oc := by
      rcases hc with rfl | hc
      · exact ⟨_, q⟩
      · exact ⟨_, hc⟩
    obtain ⟨oc, hoc⟩ := this
    obtain ⟨ob, qb⟩ := F.trk c oc hoc
    exact inB c ob u qb qc
theorem Fly.nofr (F : Fly P w fs ex H₀ H' s₀ l B s') {e : Addr} {C : Value} {tb : Bool} (x : ExcIn B e C tb s'.heap) : e ∉ frs l := fun hb => by
  obtain ⟨_, oe, vs, a0, he, hc, hd, _⟩ := x
  obtain ⟨_, o2, q2, hn⟩ := F.frm.mem hb
  rw [he] at q2; cases q2; exact hn _ hd
theorem Fly.fresh (F : Fly P w fs ex H₀ H' s₀ l B s') {e : Addr} {C : Value} {tb : Bool} (x : ExcIn B e C tb s'.heap) (hx : e ∉ ex) : s₀.heap.get? e = none ∧ H' e = none := by
  refine ⟨?_, ?_⟩
  · cases q : s₀.heap.get? e with
    | none => rfl
    | some o =>
      obtain ⟨ob, qb⟩ := F.old e o q (F.nofr x) hx
      rw [x.1] at qb; cases qb
  · cases q : H' e with
    | none => rfl
    | some o =>
      obtain ⟨ob, qb⟩ := F.trk e o q
      rw [x.1] at qb; cases qb
end
/-- what a call tells of its exception: of class C, E C -/
def CX1 (P : Program) (w : World) : CXT := fun outer H s E e s' => ∃ a C B H', e = .ref a ∧ Fly P w (frs outer) [] H H' s outer B s' ∧ ExcIn B a C true s'.heap ∧ E C none H'
/-- the same within a body -/
def FX (X : Cx) (E : XK) (e : Value) (s' : Shared) : Prop := ∃ a C B H' tb, e = .ref a ∧ Fly X.prog X.w X.fs X.ex X.H₀ H' X.s₀ X.stack B s' ∧ ExcIn B a C tb s'.heap ∧ E C none H'
theorem frames_base {h b1 b2 : Heap} : ∀ {l : List Env}, h.FunFrames b1 l → (∀ b ∈ frs l, b2.get? b = none) → h.FunFrames b2 l
  | [], _, _ => trivial
  | env :: r, ⟨hk, ⟨L, o, hf, _, ho, hd⟩, hr⟩, k => by
    have e : frs (env :: r) = L :: frs r := by simp only [frs, List.filterMap_cons, hf]
    rw [e] at k
    exact ⟨hk, ⟨L, o, hf, k L (.head _), ho, hd⟩, frames_base hr fun b hb => k b (.tail _ hb)⟩
section
variable {X : Cx} {pins : List (Addr × Obj)} {σ : St} {H : Hp} {s s' : Shared} {E : XK} {e : Value}
theorem stk_sub (ok : X.Ok) : ∀ b ∈ X.fs, b ∈ frs X.stack := fun b hb => by
  rcases ok.stk with e | ⟨e, hf⟩
  · rw [e]; exact hb
  · have q : frs (X.env :: X.outer) = X.env.locals :: frs X.outer := by simp only [frs, List.filterMap_cons, hf]
    rw [e, q]; exact .tail _ hb
theorem stk_new (ok : X.Ok) : ∀ b ∈ frs X.stack, b ∉ X.fs → X.s₀.heap.get? b = none := fun b hb hn => by
  rcases ok.stk with e | ⟨e, hf⟩
  · rw [e] at hb; exact absurd hb hn
  · have q : frs (X.env :: X.outer) = X.env.locals :: frs X.outer := by simp only [frs, List.filterMap_cons, hf]
    rw [e, q] at hb
    cases hb with
    | head => exact Heap.get?_none_of_le ok.above
    | tail _ hb => exact absurd hb hn
/-- a callee's exception, in the caller's body -/
theorem passX (I : Inv X pins σ H s) (h : CX1 X.prog X.w X.stack H s E e s') : FX X E e s' := by
  obtain ⟨a, C, B, H', rfl, F, x, he⟩ := h
  have I' : Inv X pins σ H' s' := I.call' (ch := []) F.os F.un F.hok F.bare fun b z => absurd z (by simp)
  refine ⟨a, C, B, H', true, rfl, ⟨I'.os, F.bare, I'.base, F.hok, F.stay, F.frm, fun b o q hn hx => ?_, F.trk, stk_sub I.ok, stk_new I.ok⟩, x, he⟩
  obtain ⟨o1, q1⟩ := I.base.there b o q hx
  exact F.old b o1 q1 hn (by simp)
theorem pass1 : Passes (CX1 X.prog X.w) (X.wish (FX X E)) E := fun _ _ _ _ _ _ I h => passX (X := X) I.unwish h
/-- one that was just made -/
theorem madeX {a : Addr} {C : Value} {vs : List Value} {h' : Heap} (I : Inv X pins σ H s) (m : Heap.MadeExcOf s.heap h' a C vs) (he : E C none H) : FX X E (.ref a) { s with heap := h' } := by
  have I' : Inv X pins σ H { s with heap := h' } := I.kept (t' := s.toks) m.keeps
  have hB : ∀ b o, (PySem.W.hideAll s.heap (frs X.stack)).get? b = some o → s.heap.get? b = some o := fun b o q => PySem.W.of_hideAll _ q
  obtain ⟨t, h1, h2, h3⟩ := m.there
  refine ⟨a, C, PySem.W.hideAll s.heap (frs X.stack), H, false, rfl, ⟨I'.os, I'.bare, I'.base, I'.hok, fun b o q => m.keeps b o (hB b o q), ?_, fun b o q hn hx => ?_, fun b o q => ?_, stk_sub I.ok, stk_new I.ok⟩, ⟨?_, _, _, _, h1, rfl, rfl, rfl, .inl ⟨rfl, rfl⟩⟩, he⟩
  · exact (frames_base I.stack fun b hb => PySem.W.hideAll_none _ hb).of_keeps fun b o q _ => ⟨o, m.keeps b o q, rfl⟩
  · obtain ⟨o1, q1⟩ := I.base.there b o q hx
    exact ⟨_, PySem.W.hideAll_get _ q1 hn⟩
  · obtain ⟨ob, qo⟩ := (I.hok b o q).there
    exact ⟨_, PySem.W.hideAll_get _ qo fun hb => by rw [I.stkFree b hb] at q; cases q⟩
  · cases q : (PySem.W.hideAll s.heap (frs X.stack)).get? a with
    | none => rfl
    | some o => have := hB a o q; rw [m.new] at this; cases this
theorem fx_note {Q : Unit → Shared → Prop} {Ez : Value → Shared → Prop} {env : Env} (ok : X.Ok) (hs : X.stack = X.env :: X.outer) {L : Addr} (hf : X.env.frame = some L) (hen : env.frame = X.env.frame) (h : FX X E e s')
    (hQ : ∀ h' a C B H', e = .ref a → Fly X.prog X.w X.fs X.ex X.H₀ H' X.s₀ X.stack B { s' with heap := h' } → ExcIn B a C true h' → E C none H' → Q () { s' with heap := h' }) : wpAny (model X.prog X.w) X.A (noteFrame e env) Q Ez s' := by
  obtain ⟨a, C, B, H', tb, rfl, F, x, he⟩ := h
  rw [note_same hen]
  refine exc_note (B := B) (outer := X.outer) (L := L) (by rw [ok.frames, hs]) hf F.stay (by rw [← hs]; exact F.frm) x fun h' k1 k2 k3 k4 => hQ h' a C B H' rfl (F.go k1 (by rw [hs]; exact k2) k4) k3 he
/-- a loop that lets its own exceptions pass -/
theorem passOwn (ok : X.Ok) (hs : X.stack = X.env :: X.outer) {L : Addr} (hf : X.env.frame = some L) : PassesOwn (model X.prog X.w) X.A X.env (FX X E) := fun e s' h => by
  refine fx_note ok hs hf rfl h fun h' a C B H' er F x he => ?_
  subst er
  refine wpAny_bind (exc_field x fun u hu => ?_)
  rw [hu]
  refine wpAny_ite ?_
  rw [if_neg (by simp)]
  exact exc_flight F.stay F.frm x fun h2 k1 k2 k3 k4 => ⟨a, C, B, H', true, rfl, F.go k1 k2 k4, k3, he⟩
end
theorem PSs.unwish {X : Cx} {st : List Stmt} {t : TS} {E : Value → Shared → Prop} (h : PSs (X.wish E) st t) (hE : X.Ok → ∀ e s', E e s' → X.xe e s') : PSs X st t := fun pins s σ H D I hw =>
  wpAny_mono (h pins s σ H D (I.wish E) hw) (fun _ _ q => SP.unwish q) (hE I.ok)
theorem PS.ok {X : Cx} {st : Stmt} {t : TS} (h : X.Ok → PS X st t) : PS X st t := fun pins s σ H D I hw => h I.ok pins s σ H D I hw
theorem PE.ok {X : Cx} {e : Expr} {t : TE} (h : X.Ok → PE X e t) : PE X e t := fun pins s σ H Q I hw => h I.ok pins s σ H Q I hw
/-- an exception leaves the body -/
theorem leaveX {P : Program} {w : World} {K : PySem.W.Frag} {mg : Str → Option Value} {base : Heap} {N : List Str} {qual : Str} {scope : Scope} {f : Addr} {cd : Value} {A : Around} {outer : List Env} {s : Shared} {H : Hp} {E : XK}
    (ok : (cxOf (CX1 P w) P w K mg base N qual scope f cd A outer s H E).Ok) {e : Value} {s' : Shared} (h : FX (cxOf (CX1 P w) P w K mg base N qual scope f cd A outer s H E) E e s') :
    (cxOf (CX1 P w) P w K mg base N qual scope f cd A outer s H E).xe e s' := by
  show wpAny _ _ (leaving _ e) _ _ s'
  unfold leaving
  refine wpAny_bind (fx_note ok rfl (L := s.heap.objs.size) rfl rfl h fun h' a C B H' er F x he => ?_)
  subst er
  refine exc_flight F.stay F.frm x fun h2 k1 k2 k3 k4 => ?_
  have G := F.go k1 k2 k4
  refine ⟨a, C, B, H', rfl, ⟨G.os, G.bare, G.un, G.hok, G.stay, G.frm.2.2, fun b o q hn hx => G.old b o q (fun z => ?_) hx, G.trk, fun b hb => hb, fun b hb hn => absurd hb hn⟩, k3, he⟩
  cases z with
  | head => exact Nat.lt_irrefl _ (Heap.lt_size q)
  | tail _ z => exact hn z
theorem Fun.okX {P : Program} {w : World} {K : PySem.W.Frag} {mg : Str → Option Value} {base : Heap} {x qual : Str} {st : Stmt} {f : Addr} {fd : FuncData} {N ps : List Str} {k : Nat} {sp : Sp} (F : Fun K x qual st f fd) (S : FnScope N ps (defScope st))
    (len : ∀ vs H Q E, sp vs H Q E → vs.length = ps.length)
    (hbody : ∀ (cdv : Value) (A : Around) (outer : List Env) (s : Shared) (H : Hp) (vs : List V) (Q : VK) (E : XK), Room k (A.deeper (envOfC qual (defScope st) s.heap.objs.size f cdv)) → sp vs H Q E →
      ∃ t, PSs ((cxOf (CX1 P w) P w K mg base N qual (defScope st) f cdv A outer s H E).wish (FX (cxOf (CX1 P w) P w K mg base N qual (defScope st) f cdv A outer s H E) E)) (defBody st) t ∧ t { nx := fun _ H' => Q .non H', rt := Q } (start N vs) H) :
    FnOk P w K mg base (CX1 P w) (k + 1) f fd ps sp := by
  obtain ⟨oc, od, kV, doc, pm, an, cdv, ct, osl, rfl, lk, hcd⟩ := F.ex
  refine fn_of lk hcd S len fun A outer s H vs Q E hr hsp => ?_
  obtain ⟨t, h, q⟩ := hbody cdv A outer s H vs Q E hr hsp
  exact ⟨t, h.unwish fun ok e s' z => leaveX ok z, q⟩

/-! ### a raise of an own class -/
theorem exc_obj {K : PySem.W.Frag} {h : Heap} {C : Addr} {bmB : List Value} {newId : String} (X : K.In h) (q : PySem.W.excIn K C bmB newId = true) :
    ∃ bm N nm q bs hdct sn sub ab col dd k0 k1 k2 k3 k5 mN, h.get? C = some (excClassObj nm q C N bs bm hdct sn sub ab col dd k0 k1 k2 k3 k5 newId) ∧ h.Ns N mN ∧ mN "__init__" = none ∧ OwnTail h bmB bm := by
  unfold PySem.W.excIn at q
  split at q
  case h_2 => cases q
  rename_i dd cd sl ho
  split at q
  case h_2 => cases q
  rename_i C' bm k0 k1 k2 k3 n k5 hm hs
  simp only [Bool.and_eq_true, beq_iff_eq, Bool.not_eq_true'] at q
  obtain ⟨⟨⟨⟨⟨rfl, rfl⟩, hdel⟩, ht⟩, hok⟩, hni⟩ := q
  obtain ⟨nm, bs, mro, ns, qn, hd, sn, sub, ab, col, del⟩ := cd
  dsimp only at hm hdel hok hni; subst hm hdel
  obtain ⟨l⟩ := sl
  simp only at hs; subst hs
  exact ⟨bm, ns, nm, qn, bs, hd, sn, sub, ab, col, dd, k0, k1, k2, k3, k5, _, X _ _ ho, .of_isNs (PySem.W.isNs_of_in X hok), PySem.W.nsMap_none_of_in X hok hni, PySem.W.tail_of_in X ht⟩
def lkB : List Value := [.type "LookupError", .type "Exception", .type "BaseException", .type "object"]
def tRaise (C : Addr) (E : XK) (t : TA) : TS := fun _ σ H => t σ H fun vs H1 => vs.length ≤ sizeLine ∧ E (.ref C) none H1
section
variable {X : Cx} {E : XK} {x : Str} {C : Addr} {e : Expr} {es : List Expr} {t : TA} {np cpos pos : Pos}
theorem ps_raise (hc : X.calm = true) (hg : Gl X x) (hm : X.mg x = some (.ref C)) (hx : PySem.W.excIn X.K C lkB "LookupError.__new__" = true) (ha : PA (X.wish (FX X E)) (e :: es) t)
    (hdb : (x == ("__debug__" : Str)) = false := by decide) (he : starEach (e :: es) X.env = (false, eval e X.env) :: starEach es X.env := by rfl) (hpl : (backTo cpos (starEach es X.env)).any (·.1) = false := by rfl) :
    PS (X.wish (FX X E)) (.Raise (some (.Call (.Name x np) (e :: es) [] cpos)) none pos) (tRaise C E t) := by
  intro pins s σ H D I h
  obtain ⟨bm, N, nm, q, bs, hdct, sn, sub, ab, col, dd, k0, k1, k2, k3, k5, mN, hC, hN, hni, T⟩ := exc_obj I.ok.mod.kin hx
  refine wpAny_Raise_call_subT (C := C) (nm := nm) (q := q) (N := N) (bs := bs) (bm := bm) (hdct := hdct) (sn := sn) (sub := sub) (ab := ab) (col := col) (dd := dd) (k0 := k0) (k1 := k1) (k2 := k2) (k3 := k3) (k5 := k5)
    PySem.F.excBase_LookupError (mN := mN) (T.hasType PySem.F.excBase_LookupError.hasBase) (I.ok.hd hc) (by rw [he]; show (false || (backTo cpos (starEach es X.env)).any (·.1)) = false; rw [hpl]; rfl) hni (ld_glob I hg hm ⟨rfl, ?_⟩ hdb)
  have hA := ha cpos pins s σ H _ I h
  rw [he] at hA ⊢
  refine Calls.evalArgs_plain (thn hA fun us s2 ⟨vs, H1, I1, r, q⟩ => ⟨rfl, ?_, I1.bk _ _ hC, hN.keeps I1.bk, T.keeps I1.bk, fun h' a m => madeX I1.unwish m q.2⟩)
  show us.length ≤ _; rw [← r.length]; exact q.1
end
end L2

-- R4b
set_option linter.all false
set_option maxRecDepth 100000
/-! a comprehension whose element raises; a try around one call -/
namespace L2
open PySem PySem.Spec PyProof.Rows

/-- within a block: its own names are still there -/
def FXC (Y : Cx) (E : XK) (e : Value) (s' : Shared) : Prop :=
  ∃ a C B H' tb, e = .ref a ∧ Fly Y.prog Y.w Y.fs Y.ex Y.H₀ H' Y.s₀ Y.stack B s' ∧ ExcIn B a C tb s'.heap ∧ E C none H' ∧ H' Y.env.locals = none ∧ ∃ m, B.Ns Y.env.locals m
section
variable {X : Cx} {pins : List (Addr × Obj)} {σ : St} {H : Hp} {s s' : Shared} {E : XK} {e : Value}
theorem passXC (hn : X.env.locals ∉ frs X.stack) (I : Inv X pins σ H s) (h : CX1 X.prog X.w X.stack H s E e s') : FXC X E e s' := by
  have h' := h
  obtain ⟨a, C, B, H', rfl, F, x, he⟩ := h
  have I' : Inv X pins σ H' s' := I.call' (ch := []) F.os F.un F.hok F.bare fun b z => absurd z (by simp)
  obtain ⟨m, hns, _⟩ := I.loc
  obtain ⟨o, es, ep, ho, hd, r⟩ := hns
  obtain ⟨ob, qb⟩ := F.old _ o ho hn (by simp)
  have q1 := F.un.keep _ o ho I.free hn (by simp)
  have q2 := F.stay _ ob qb
  rw [q1] at q2; cases q2
  refine ⟨a, C, B, H', true, rfl, ⟨I'.os, F.bare, I'.base, F.hok, F.stay, F.frm, fun b o q hn hx => ?_, F.trk, stk_sub I.ok, stk_new I.ok⟩, x, he, I'.free, m, o, es, ep, qb, hd, r⟩
  obtain ⟨o1, q1⟩ := I.base.there b o q hx
  exact F.old b o1 q1 hn (by simp)
end
abbrev compX (X : Cx) (T : List Str) (scope : Scope) (C : Addr) (s : Shared) (H : Hp) (ex : List Addr) (pn : List (Addr × Obj)) (E : XK) : Cx :=
  compCx X T scope C s H ex pn (FXC (compCx X T scope C s H ex pn fun _ _ => False) E)
theorem pass1C {X : Cx} {T : List Str} {scope : Scope} {C : Addr} {s : Shared} {H : Hp} {ex : List Addr} {pn : List (Addr × Obj)} {E : XK} : Passes (CX1 X.prog X.w) (compX X T scope C s H ex pn E) E := fun pins σ H1 s1 e s' I h => by
  have I0 : Inv (compCx X T scope C s H ex pn fun _ _ => False) pins σ H1 s1 := I.wish _
  refine passXC (X := compCx X T scope C s H ex pn fun _ _ => False) (fun hb => ?_) I0 h
  obtain ⟨_, o, ho, _⟩ := I0.ok.funs.mem hb
  exact Nat.lt_irrefl _ (Nat.lt_of_lt_of_le (Heap.lt_size ho) I0.ok.above)
section
variable {X : Cx} {T : List Str} {scope : Scope} {elt iter tg : Expr} {ifs : List Expr} {pos : Pos} {wi : TI} {g : TG} {tt : TT} {te : TE} {E : XK}
/-- out of the block: its names go, the exception flies on -/
theorem compOut {pins : List (Addr × Obj)} {σ : St} {H : Hp} {s : Shared} {C : Addr} {fp : List Addr} {e : Value} {s' : Shared} {Qv : Value → Shared → Prop} {acc : Value} (hfr : X.stack = X.env :: X.outer) {L : Addr} (hL : X.env.frame = some L) (I : Inv X pins σ H s) (hf : ∀ b ∈ fp, FpOk X pins H b)
    (hC : s.heap.objs.size ≤ C) (h : FXC (compCx X T scope C s H fp (X.pn ++ pins) fun _ _ => False) E e s') :
    notedBy (model X.prog X.w) X.A (compEnvC scope (clGo X.env.cells scope.names []) C X.env) (fun e s' => compPost (model X.prog X.w) X.A (FX X E) none Qv acc C (.error e) s') e s' := by
  obtain ⟨a, Cl, B, H', tb, rfl, F, x, he, hfree, m, hns⟩ := h
  show wpAny _ _ (noteFrame (.ref a) (compEnvC scope (clGo X.env.cells scope.names []) C X.env)) _ _ s'
  rw [note_same (env := X.env) (env' := compEnvC scope (clGo X.env.cells scope.names []) C X.env) rfl]
  have frm : s'.heap.FunFrames B (X.env :: X.outer) := by rw [← hfr]; exact F.frm
  refine exc_note (B := B) (outer := X.outer) (L := L) (by rw [I.ok.frames, hfr]) hL F.stay frm x fun h1 k1 k2 k3 k4 => ?_
  have F1 := F.go k1 (by rw [show (compCx X T scope C s H fp (X.pn ++ pins) fun _ _ => False).stack = X.env :: X.outer from hfr]; exact k2) k4
  refine ⟨m, hns.keeps k1, fun h2 hsb cenv hce => ?_⟩
  obtain ⟨oC, esC, epC, hoC, hdC, hrC⟩ := hns
  have hCf : H' C = none := hfree
  have keep : ∀ b o, b ≠ C → h1.get? b = some o → h2.get? b = some o := fun b o hb q => hsb.extBut b o hb q
  have ltC : ∀ b o, s.heap.get? b = some o → b ≠ C := fun b o q z => Nat.lt_irrefl _ (Nat.lt_of_lt_of_le (Heap.lt_size (z ▸ q)) hC)
  have hB' : ∀ b o, (PySem.W.hideAll B [C]).get? b = some o → B.get? b = some o ∧ b ≠ C := fun b o q => ⟨PySem.W.of_hideAll _ q, fun z => by subst z; rw [PySem.W.hideAll_none [b] (.head _)] at q; cases q⟩
  have nB' : ∀ b, B.get? b = none → (PySem.W.hideAll B [C]).get? b = none := fun b q => by
    cases z : (PySem.W.hideAll B [C]).get? b with
    | none => rfl
    | some o => rw [(hB' b o z).1] at q; cases q
  have toB : ∀ b o, B.get? b = some o → b ≠ C → ∃ ob, (PySem.W.hideAll B [C]).get? b = some ob := fun b o q hb => ⟨o, PySem.W.hideAll_get _ q fun z => hb (by simpa using z)⟩
  have inC : ∀ b, B.get? b = none → b ≠ C := fun b q z => by subst z; exact Option.some_ne_none _ (hoC.symm.trans q)
  have un2 : Un (frs X.stack) fp H H' s.heap h2 := ⟨fun b o q n hb hx => keep b o (ltC b o q) (F1.un.keep b o q n hb hx), fun b o q n hb hx => (F1.un.slot b o q n hb hx).imp fun sl z => keep b _ (ltC b o q) z, F1.un.free,
    fun b o q hx => (F1.un.there b o q hx).imp fun o' z => keep b _ (ltC b o q) z, F1.un.tups, F1.un.frzs, F1.un.tbls⟩
  have hok2 : HOk X.prog X.w H' h2 := fun b o q => (F1.hok b o q).stay (fun c u hc z => keep c u (fun zc => by
    subst zc
    rcases hc with rfl | hc
    · rw [hCf] at q; cases q
    · rw [hCf] at hc; cases hc) z) (fun _ z => z) fun _ _ z => z
  have os2 : ({ s' with heap := h2 } : Shared).os = s.os := F1.os
  have I2 : Inv X pins σ H' { s' with heap := h2 } := I.call' (ch := fp) os2 un2 hok2 F1.bare fun b hb => by
    obtain ⟨_, f1, _, f3, f4, f5⟩ := hf b hb
    exact ⟨f3, f1, f4, f5⟩
  have x2 : ExcIn (PySem.W.hideAll B [C]) a Cl true h2 := by
    obtain ⟨hb, oe, vs, a0, h3, h4, h5, h6, ⟨z, _⟩ | ⟨Tb, oT, ts, fl, z1, z2, z3, z4, z5, z6⟩⟩ := k3
    · cases z
    · exact ⟨nB' _ hb, oe, vs, a0, keep _ _ (inC _ hb) h3, h4, h5, h6, .inr ⟨Tb, oT, ts, fl, z1, nB' _ z2, z3, keep _ _ (inC _ z2) z4, z5, z6⟩⟩
  have hCs : C ∉ frs X.stack := fun z => by
    obtain ⟨_, o, ho, _⟩ := I.stack.mem z
    exact ltC C o ho rfl
  have F2 : Fly X.prog X.w X.fs X.ex X.H₀ H' X.s₀ X.stack (PySem.W.hideAll B [C]) { s' with heap := h2 } := by
    refine ⟨I2.os, I2.bare, I2.base, hok2, fun b o q => keep b o (hB' b o q).2 (k1 b o (hB' b o q).1), ?_, fun b o q hn hx => ?_, fun b o q => ?_, stk_sub I.ok, stk_new I.ok⟩
    · have fr1 : h1.FunFrames (PySem.W.hideAll B [C]) X.stack := frames_base (by rw [hfr]; exact k2) fun b hb => nB' b (F1.frm.mem hb).1
      clear un2 hok2 I2
      revert fr1
      suffices ∀ l : List Env, C ∉ frs l → h1.FunFrames (PySem.W.hideAll B [C]) l → h2.FunFrames (PySem.W.hideAll B [C]) l from this _ hCs
      intro l
      induction l with
      | nil => exact fun _ z => z
      | cons en r ih =>
        rintro hc ⟨hk, ⟨L', o, hf', hn, ho, hd⟩, hr⟩
        have e : frs (en :: r) = L' :: frs r := by simp only [frs, List.filterMap_cons, hf']
        rw [e] at hc
        exact ⟨hk, ⟨L', o, hf', hn, keep L' o (fun z => hc (z ▸ .head _)) ho, hd⟩, ih (fun z => hc (.tail _ z)) hr⟩
    · obtain ⟨o1, q1⟩ := I.base.there b o q hx
      have hfp : b ∉ fp := fun z => by
        rcases (hf b z).2.2.2.1 with z1 | z1
        · exact hx z1
        · exact Nat.lt_irrefl _ (Nat.lt_of_lt_of_le (Heap.lt_size q) z1)
      obtain ⟨ob, qb⟩ := F1.old b o1 q1 hn hfp
      exact toB b ob qb (ltC b o1 q1)
    · obtain ⟨ob, qb⟩ := F1.trk b o q
      exact toB b ob qb fun z => by rw [z, hCf] at q; cases q
  unfold PySem.passOn
  refine wpAny_bind (exc_field x2 fun u hu => ?_)
  rw [hu]
  refine wpAny_ite ?_
  rw [if_neg (by simp)]
  refine wpAny_bind (exc_flight F2.stay F2.frm x2 fun h3 k5 k6 k7 k8 => ?_)
  exact wpAny_throw ⟨a, Cl, _, H', true, rfl, F2.go k5 k6 k8, k7, he⟩
theorem pe_compX (S : ScopeIn X T scope) (hc : X.calm = true) (hfr : X.stack = X.env :: X.outer) {L : Addr} (hL : X.env.frame = some L) (hi : PI (X.wish (FX X E)) tg iter wi) (hg : ∀ C s H ex pn, PG (compX X T scope C s H ex pn E) tg g) (hgf : Firsts T.length g)
    (ht : ∀ C s H ex pn, PIfs (compX X T scope C s H ex pn E) ifs tt) (he : ∀ C s H ex pn, PE (compX X T scope C s H ex pn E) elt te) (hs : ∀ x, foldedSetIterable iter X.env x = pure x := by intro _; rfl) :
    PE (X.wish (FX X E)) (.ListComp elt [⟨tg, iter, ifs, 0⟩] scope pos) (tComp T.length wi g tt te) := by
  intro pins s σ H Q I h
  rw [eval_ListComp]
  refine wpAny_comprehension_free (use := none) (cl := clGo X.env.cells scope.names []) rfl hs (closure_eq fun n hn => I.ok.has n (S.cap n hn)) S.kind S.loc ?_
  refine thn (hi pins s σ H _ I h) fun v s1 h1 => thn h1 fun itv s2 h2 => ?_
  obtain ⟨it, fp, tn, J, H2, e, I2', Tn, st2, f2, W, ⟨m0, w0⟩, turn⟩ := h2
  subst e
  have I2 : Inv X pins σ H2 s2 := I2'.unwish
  have hfl : ∀ b ∈ fp, b < s2.heap.objs.size := fun b hb => by
    obtain ⟨o, ho, _⟩ := Tn.obj _ _ st2 b hb
    exact Heap.lt_size ho
  refine wpAny_newObj_type (wpAny_newFunctionEnv S.nocell (by intro y hy; cases hy) (fun h4 hns hsb => ?_) S.kind)
  dsimp only at hns hsb ⊢
  generalize hH3 : s2.heap.push { cls := .type "list", dict := none, data := .seq ([] : List Value).toArray } = H3 at hns hsb ⊢
  have hC : H3.objs.size = s2.heap.objs.size + 1 := by rw [← hH3, Heap.size_push]
  have old3 : ∀ b o, H3.get? b = some o → h4.get? b = some o := fun b o e => hsb.extBut b o (Nat.ne_of_lt (Heap.lt_size e)) (Heap.get?_push_of_some _ e)
  have old : ∀ b o, s2.heap.get? b = some o → h4.get? b = some o := fun b o e => old3 b o (by rw [← hH3]; exact Heap.get?_push_of_some _ e)
  have hDo : h4.get? s2.heap.objs.size = some { cls := .type "list", data := .seq ([] : List Value).toArray } := old3 _ _ (by rw [← hH3]; exact Heap.get?_push_size _ rfl)
  have hDC : s2.heap.objs.size ≠ H3.objs.size := by omega
  have loop : ∀ s4 : Shared, s4 = { s2 with heap := h4, toks := s2.toks + ([] : List (Str × Value)).length } →
      codeAny (model X.prog X.w) X.A (.compLoop (.ListComp elt [⟨tg, iter, ifs, 0⟩] scope pos) 0 (.ref it) (.ref s2.heap.objs.size) (compEnvC scope (clGo X.env.cells scope.names []) H3.objs.size X.env))
        (compPost (model X.prog X.w) X.A (FX X E) none (EP (X.wish (FX X E)) pins σ Q) (.ref s2.heap.objs.size) H3.objs.size) s4 := by
    rintro s4 rfl
    have I4 : Inv (compX X T scope H3.objs.size s2 H2 fp (X.pn ++ pins) E) [] (List.replicate T.length none ++ σ) H2 { s2 with heap := h4, toks := s2.toks + ([] : List (Str × Value)).length } :=
      comp_start S I2 f2 hfl old (by omega) hns rfl rfl
    refine comp_loop (X := X) (Qe := fun ys H => ∀ p, H p = none → Q (.ref p) (upd H p (.lst ys))) hc (hg _ _ _ _ _) hgf (ht _ _ _ _ _) (he _ _ _ _ _) Tn f2 hfl (by omega) (Nat.le_refl _) hDC (fun p hp => Heap.lt_size (I2.pin p hp).1) (fun b hb => ?_) I2.fresh I4 ?_ hDo
      (fun e s' z => compOut hfr hL I2 f2 (by omega) z) w0 turn ?_
    · obtain ⟨_, o, ho, _⟩ := I2.stack.mem hb
      exact Heap.lt_size ho
    · exact Tn.keep _ _ _ st2 fun b hb o e => old b o e
    · intro s5 σ5 H5 ys us n I5 hD5 hDo5 hv hz q
      obtain ⟨mm, hn5, _⟩ := I5.loc
      exact ⟨mm, hn5, fun h' hsb' => ⟨.ref s2.heap.objs.size, _, (comp_end I2 f2 (by omega) (Nat.le_refl _) hDC I5 hsb' hD5 hDo5 hv hz).wish _, rfl, q _ hD5⟩⟩
  refine codeAny_compStart_list (loop _ rfl) (Tn.self _ 0 _ _ _ ?_ (loop _ rfl))
  exact Tn.keep _ _ _ st2 fun b hb o e => old b o e
end
end L2

-- R4c
set_option linter.all false
set_option maxRecDepth 100000
/-! a try around one call; what kind an exception is of -/
namespace L2
open PySem PySem.Spec PyProof.Rows

/-- an exception, of class Cl -/
def excO (a : Addr) (Cl : Value) : HO := .ext fun h => ∃ o vs, h.get? a = some o ∧ o.cls = Cl ∧ o.data = .fields vs
theorem excO_ok {P : Program} {w : World} {H : Hp} {h : Heap} {a : Addr} {Cl : Value} {o : Obj} {vs : Array Value} (h1 : h.get? a = some o) (h2 : o.cls = Cl) (h3 : o.data = .fields vs) : ObjOk P w H h a (excO a Cl) :=
  ⟨⟨o, vs, h1, h2, h3⟩, ⟨o, h1⟩, fun _ _ ⟨o, us, q1, q2, q3⟩ k => ⟨o, us, k o q1, q2, q3⟩⟩
theorem excO_get {X : Cx} {pins : List (Addr × Obj)} {σ : St} {H : Hp} {s : Shared} {a : Addr} {Cl : Value} (I : Inv X pins σ H s) (h : H a = some (excO a Cl)) : ∃ o vs, s.heap.get? a = some o ∧ o.cls = Cl ∧ o.data = .fields vs := (I.hok a _ h).1
section
variable {X : Cx} {pins : List (Addr × Obj)} {σ : St} {H : Hp} {s : Shared}
/-- a name that is not followed comes or goes -/
theorem Inv.untold {n : Str} {m : Str → Option Value} {v : Option Value} {h' : Heap} {t' : Nat} (I : Inv X pins σ H s) (hnN : n ∉ X.N) (hl : ∀ (i : Nat) (x : Str) (v : V), X.N[i]? = some x → σ[i]? = some (some v) → Vis X.env.scope x → ∃ u, RelV v u ∧ Look X.env s.heap m x u)
    (hm : s.heap.Ns X.env.locals m) (hn' : h'.Ns X.env.locals (fun x => if x = n then v else m x)) (hs : Heap.SameBut X.env.locals s.heap h') : Inv X pins σ H { s with heap := h', toks := t' } := by
  have ne : ∀ b o, X.s₀.heap.get? b = some o → b ≠ X.env.locals := fun b o e => Nat.ne_of_lt (Nat.lt_of_lt_of_le (Heap.lt_size e) I.ok.above)
  refine ⟨I.ok, I.os, I.bare, ⟨fun b o e z hb hx => (hs.2 b (ne b o e)).trans (I.base.keep b o e z hb hx), fun b o e z hb hx => (I.base.slot b o e z hb hx).imp fun sl q => (hs.2 b (ne b o e)).trans q, I.base.free, fun b o e hx => (I.base.there b o e hx).imp fun o' q => (hs.2 b (ne b o e)).trans q, I.base.tups, I.base.frzs, I.base.tbls⟩,
    ⟨_, hn', fun i x w h1 h2 h3 => ?_⟩, fun x c e => ?_, I.free, I.freeC, fun p hp => ?_, fun b o e => ?_, I.len⟩
  · obtain ⟨u, r, q⟩ := hl i x w h1 h2 h3
    refine ⟨u, r, ?_⟩
    rcases q with ⟨k, q⟩ | ⟨k, c, q, z⟩
    · refine .inl ⟨k, ?_⟩
      have : x ≠ n := fun z => hnN (z ▸ List.mem_of_getElem? h1)
      simp [this, q]
    · exact .inr ⟨k, c, q, z.sameBut hs (I.cne x c q)⟩
  · obtain ⟨w', z⟩ := I.cell x c e
    exact ⟨w', z.sameBut hs (I.cne x c e)⟩
  · obtain ⟨e, z, ne, nf, d⟩ := I.pin p hp
    exact ⟨(hs.2 p.1 ne).trans e, z, ne, nf, d⟩
  · refine (I.hok b o e).stay (fun c w' hc q => (hs.2 c ?_).trans q) (fun _ q => q) fun _ _ q => q
    rintro rfl
    rcases hc with rfl | hc
    · rw [I.free] at e; cases e
    · rw [I.free] at hc; cases hc
theorem Inv.marked (I : Inv X pins σ H s) (e : Option Value) : Inv { X with A := X.A.mark e, calm := false } pins σ H s :=
  ⟨⟨I.ok.mod, I.ok.kind, I.ok.glob, I.ok.blt, I.ok.above, I.ok.inj, I.ok.has, I.ok.cab, (fun z => by cases z), I.ok.frames, I.ok.stk, I.ok.exf, I.ok.bs, I.ok.bsz, I.ok.noex, I.ok.exfs, I.ok.funs, I.ok.frf⟩, I.os, I.bare, I.base, I.loc, I.cell, I.free, I.freeC, I.pin, I.hok, I.len⟩
/-- the exception that was caught is followed from here -/
theorem Inv.caught {H' : Hp} {s' : Shared} {B : Heap} {a : Addr} {Cl : Value} {tb : Bool} (I : Inv X pins σ H s) (F : Fly X.prog X.w (frs X.stack) [] H H' s X.stack B s') (x : ExcIn B a Cl tb s'.heap) : Inv X pins σ (upd H' a (excO a Cl)) s' := by
  obtain ⟨n1, n2⟩ := F.fresh x (by simp)
  have ne : ∀ b o, s.heap.get? b = some o → b ≠ a := fun b o q z => by subst z; rw [n1] at q; cases q
  have ne' : ∀ b o, H' b = some o → b ≠ a := fun b o q => ne_of_none q n2
  obtain ⟨_, oe, vs, a0, q1, q2, q3, _⟩ := x
  refine I.call' (ch := []) F.os ⟨F.un.keep, F.un.slot, fun b o q z hx => ?_, F.un.there, fun b xs q => ?_, fun b o u q => ?_, fun b ps q => ?_⟩ (fun b o q => ?_) F.bare fun b z => absurd z (by simp)
  · rw [upd_ne (ne b o q)]; exact F.un.free b o q z hx
  · have := F.un.tups b xs q; rw [upd_ne (ne' b _ this)]; exact this
  · have := F.un.frzs b o u q; rw [upd_ne (ne' b _ this)]; exact this
  · obtain ⟨more, this⟩ := F.un.tbls b ps q; exact ⟨more, by rw [upd_ne (ne' b _ this)]; exact this⟩
  · by_cases hb : b = a
    · subst hb; rw [upd_same] at q; cases q; exact excO_ok q1 q2 q3
    · rw [upd_ne hb] at q
      exact (F.hok b o q).stay (fun _ _ _ z => z) (fun c z => by rw [upd_ne (ne' c _ z)]; exact z) fun c xs z => by rw [upd_ne (ne' c _ z)]; exact z
end
def tTry (K : PySem.W.Frag) (CT : Addr) (i j : Nat) (sp : Sp) (dvs : List V) (t : TA) : TS := fun D σ H => t σ H fun vs H1 => sp (vs ++ dvs) H1 (fun v H2 => D.nx (σ.set i (some v)) H2)
  fun Cl _ H2 => PySem.W.exmOne K Cl (.ref CT) = some true ∧ ∀ a, H2 a = none → D.nx (σ.set j (some (.ref a))) (upd H2 a (excO a Cl))
section
variable {X : Cx} {k : Nat} {f CT : Addr} {fd : FuncData} {ps : List Str} {sp : Sp} {dvs : List V} {ds : List Value} {fx x y z n : Str} {e : Expr} {es : List Expr} {t : TA} {i j : Nat} {p cpos pos apos xp hp tp np sp' yp : Pos}
theorem ps_try (hc : X.calm = true) (hst : X.stack = X.env :: X.outer) {L : Addr} (hL : X.env.frame = some L) (hN : X.N.Nodup) (hi : X.N[i]? = some x) (hx : X.env.scope.names.lookup x = some .local) (hj : X.N[j]? = some y) (hy : X.env.scope.names.lookup y = some .local)
    (hn : X.env.scope.names.lookup n = some .local) (hnN : n ∉ X.N)
    (F : FnOk X.prog X.w X.K X.mg X.base (CX1 X.prog X.w) k f fd ps sp) (hr : Room k X.A) (hg : Gl X fx) (hm : X.mg fx = some (.ref f)) (hk : PySem.W.keepIn X.K (.ref f) = true) (hb : Binds X.K fd ps ds) (hd : Vals dvs ds) (ha : PA X.nox (e :: es) t)
    (hgT : Gl X z) (hmT : X.mg z = some (.ref CT))
    (hdb : (fx == ("__debug__" : Str)) = false := by decide) (hdz : (z == ("__debug__" : Str)) = false := by decide) (hdn : (n == ("__debug__" : Str)) = false := by decide) (he : starEach (e :: es) X.env = (false, eval e X.env) :: starEach es X.env := by rfl) (hpl : (backTo cpos (starEach es X.env)).any (·.1) = false := by rfl)
    (hs : swapsWith (.Call (.Name fx p) (e :: es) [] cpos) (some (.Name x xp)) apos.line X.env = pure false := by rfl) (hs2 : swapsWith (.Name n np) (some (.Name y yp)) sp'.line X.env = pure false := by rfl) :
    PS X (.Try [.Assign [.Name x xp] (.Call (.Name fx p) (e :: es) [] cpos) apos] [.ExceptHandler (some (.Name z tp)) (some n) [.Assign [.Name y yp] (.Name n np) sp'] hp] [] [] pos) (tTry X.K CT i j sp dvs t) := by
  intro pins s σ H D I h
  have hcls : (X.env.scope.kind == .class || (X.env.scope.kind == .module && X.env.locals != X.env.globals)) = false := by rw [I.ok.kind]; rfl
  refine wpAny_Try_except (wpAny_execs_cons (wpAny_Assign_Name (wpAny_Call_Name_kw (ld_glob I hg hm ?_ hdb)) hs))
  refine PySem.W.callWith_K (h₀ := X.base) I.ok.mod.kin hk (wpAny_mono (ha cpos pins s σ H _ (I.wish _) h) (fun us s1 ⟨vs, H1, I1', r, q⟩ => ⟨I1'.unwish.kIn, ?_⟩) fun _ _ z => z.elim) he hpl
  have I1 : Inv X pins σ H1 s1 := I1'.unwish
  have r2 : Vals (vs ++ dvs) (us ++ ds) := r.append hd
  have hl : (us ++ ds).length = ps.length := by rw [← r2.length]; exact F.len _ _ _ _ q
  refine wpAny_call (codeAny_mono (F.run X.A X.stack s1 H1 ⟨us, []⟩ (us ++ ds) (vs ++ dvs) _ _ hr I1.env0 (hb s1 us I1.kIn hl) r2 q) fun res s' hq => ?_)
  cases res with
  | ok fl =>
    cases fl with
    | ret u =>
      obtain ⟨v, H2, I2, rv, q2⟩ := I1.after hq
      exact store_ok I2 hN hi (.inl hx) rv (fun s3 I3 => wpAny_execs_nil (wpAny_execs_nil ⟨_, H2, I3, q2⟩)) (.inr hx)
    | next => exact False.elim hq
    | brk => exact False.elim hq
    | cont => exact False.elim hq
  | error er =>
    obtain ⟨a, Cl, B, H', rfl, G, xi, hm1, hq2⟩ := hq
    refine exc_note (B := B) (outer := X.outer) (L := L) (by rw [I.ok.frames, hst]) hL G.stay (by rw [← hst]; exact G.frm) xi fun h1 k1 k2 k3 k4 => ?_
    have G1 := G.go k1 (by rw [hst]; exact k2) k4
    refine exc_flight G1.stay G1.frm k3 fun h2 k5 k6 k7 k8 => ?_
    have G2 := G1.go k5 k6 k8
    have I2 := I1.caught G2 k7
    have I2m := I2.marked (some (.ref a))
    refine wpAny_handleBy_cons (codeAny_handlers_test (ld_glob (X := { X with A := X.A.mark (some (.ref a)), calm := false }) I2m hgT hmT ?_ hdz)) (by intro q; cases q)
    have LT : PySem.W.Looks (model X.prog X.w) h2 (typeOf (.ref a)) Cl := by
      obtain ⟨_, oe, vs, a0, q1, q2, q3, _⟩ := k7
      rw [← q2]; exact (PySem.W.Looks.ld q1).andThen .now
    refine PySem.W.exm_one (M := model X.prog X.w) (h := h2) I2.kIn LT hm1 _ _ _ _ (fun _ _ q => q) ?_
    refine codeAny_handlers_suite_as (exc_flight G2.stay G2.frm k7 fun h3 k9 k10 k11 k12 => ?_)
    have G3 := G2.go k9 k10 k12
    have I3 := I1.caught G3 k11
    obtain ⟨m, hm3, hl3⟩ := id I3.loc
    refine wpAny_storeName_local hn hm3 (fun h4 hn4 hs4 => ?_) hcls
    have I4 := I3.untold (v := some (.ref a)) (t' := s'.toks + 1) hnN hl3 hm3 hn4 hs4
    refine wpAny_execs_cons (wpAny_Assign_Name (wpAny_Name (wpAny_loadName_local (v := .ref a) I.ok.kind hn hn4 (by simp) ?_) hdn) hs2)
    refine store_ok (v := .ref a) I4 hN hj (.inl hy) rfl (fun s5 I5 => wpAny_execs_nil ?_) (.inr hy)
    obtain ⟨m5, hm5, hl5⟩ := id I5.loc
    exact wpAny_nameGoes_keeps hn hm5 hcls fun h6 v6 hn6 hs6 => ⟨_, _, I5.untold hnN hl5 hm5 hn6 hs6, hq2 a (G.fresh xi (by simp)).2⟩
end
end L2

-- R4d
set_option linter.all false
set_option maxRecDepth 100000
/-! isinstance of an exception -/
namespace L2
open PySem PySem.Spec PySem.Calls PyProof.Rows PySem.W Builtin Builtin.ObjectAttr Builtin.Getset_descriptor
/-- what is known of an own class of exceptions -/
structure XCls (K : PySem.W.Frag) (C : Addr) : Prop where
  ga : PySem.W.findIn K (.ref C) "__getattribute__" = some (some (.builtin "BaseException.__getattribute__"))
  gt : PySem.W.findIn K (.ref C) "__getattr__" = some none
  ca : PySem.W.findIn K (.ref C) "__class__" = some (some (.builtin "object.__class__"))
  get : PySem.W.specialIn K (.builtin "object.__class__") "__get__" = some (some (.builtin "getset_descriptor.__get__"))
  tk : PySem.W.takesIn K (.builtin "object.__class__") = some true
  mo : PySem.W.mroIn K C (.type "object") = some true
  mb : PySem.W.mroIn K C (.type "BaseException") = some true
  cls : (PySem.W.clsIn K C).isSome = true
def XAt (x C : Addr) (h : Heap) : Prop := ∃ o, h.get? x = some o ∧ o.cls = .ref C
theorem XAt.ty {x C : Addr} {M : Model} {h : Heap} (p : XAt x C h) : Looks M h (typeOf (.ref x)) (.ref C) := by
  obtain ⟨o, h1, h2⟩ := p
  exact h2 ▸ (Looks.ld h1).andThen .now
section
variable {prog : Program} {w : World} {A : Around} {E : Value → Shared → Prop} {s : Shared} {K : Frag} {x C : Addr}
theorem x_class_get {R : Result → Shared → Prop} {tp : Value} (X : K.In s.heap) (I : XAt x C s.heap) (hm : mroIn K C (.type "object") = some true)
    (h : R (.ok (.ret (.ref C))) s) : codeAny (model prog w) A (.call (.builtin "getset_descriptor.__get__") ⟨[.builtin "object.__class__", .ref x, tp], []⟩) R s := by
  obtain ⟨hh, g, dr, t, os⟩ := s
  have L0 := I.ty (M := model prog w)
  have L1 := looks_mroIn (M := model prog w) X hm
  refine codeAny_call_builtin KF.slot_gs.plain KF.entry_gs (KF.slot_gs.check _ _ _ _ _ _ _ _ KF.type_class (KF.args_gs _ _ _) ?_)
  unfold Builtin.«getset_descriptor.__get__» descrGet
  rw [dga_obj]
  refine wpAny_bind (wpAny_pure ?_)
  unfold descrGetter descrCheckInstance descrNameAndClass isInstance
  simp only [KF.owner_class]
  repeat lk
  refine ⟨Code.quiet_builtin _ (by decide +kernel), codeAny_builtin KF.entry_class ?_⟩
  unfold Builtin.«object.__class__» shownTypeOf
  repeat lk
  exact h
theorem x_find {M : Model} {h : Heap} (X : K.In h) (Z : XCls K C) : Looks M h (find (.ref x) (.ref C) "__class__") (.bind (.builtin "getset_descriptor.__get__") (.builtin "object.__class__")) := by
  have L1 := looks_findIn (M := M) X Z.ca
  have L2 := looks_specialIn (M := M) X Z.get
  have L3 := looks_takesIn (M := M) X Z.tk
  refine L1.andThen (Looks.andThen (a := some (Value.builtin "getset_descriptor.__get__")) (show Looks M h (getOf (some (Value.builtin "object.__class__"))) _ from L2) ?_)
  refine Looks.andThen (a := some (Value.builtin "getset_descriptor.__get__", Value.builtin "object.__class__")) (show Looks M h (dataDescriptor? _ _) _ from L3.andThen .now) ?_
  exact fun A Q E s k q => wpAny_bind (wpAny_rule (wpAny_pure q))
theorem x_check {nameV : Value} {Q : Unit → Shared → Prop} (X : K.In s.heap) (Z : XCls K C) (I : XAt x C s.heap) (hq : Q () s) : wpAny (model prog w) A (checkBuiltinCall "BaseException.__getattribute__" ⟨[.ref x, nameV], []⟩) Q E s := by
  have hk : builtinKind "BaseException.__getattribute__" = some .slot := by decide +kernel
  have hsplit : splitId "BaseException.__getattribute__" = some ("BaseException", "__getattribute__") := by decide +kernel
  have ha := F.args_bexc_ga (.ref x) nameV
  obtain ⟨hh, g, dr, t, os⟩ := s
  have L0 := I.ty (M := model prog w)
  have L1 := looks_mroIn (M := model prog w) X Z.mb
  simp only [checkBuiltinCall, hk, hsplit]
  unfold isInstance
  refine wpAny_bind (wpAny_bind (L0.at (L1.at ?_)))
  rw [if_neg (by decide)]
  unfold argsOk at ha
  generalize Manifest.signature? "BaseException.__getattribute__" = sg at ha ⊢
  cases sg with
  | none => exact wpAny_pure hq
  | some sig =>
    dsimp only at ha ⊢
    rw [ha]
    exact wpAny_pure hq
theorem x_call {tk : Tok} {R : Result → Shared → Prop} (X : K.In s.heap) (Z : XCls K C) (I : XAt x C s.heap) (h : R (.ok (.ret (.ref C))) s) :
    codeAny (model prog w) A (.call (.builtin "BaseException.__getattribute__") ⟨[.ref x, .str "__class__" tk], []⟩) R s := by
  refine codeAny_call_builtin F.attr_LookupError.ga.plain F.entry_bexc_ga (x_check X Z I ?_)
  obtain ⟨hh, g, dr, t, os⟩ := s
  have L0 := I.ty (M := model prog w)
  have L1 := x_find (M := model prog w) (x := x) X Z
  unfold Builtin.«object.__getattribute__»
  refine wpAny_bind (wpAny_pure (a := (Value.ref x, [Value.str "__class__" tk])) (wpAny_bind (wpAny_pure (a := ("__class__" : Str)) (wpAny_bind (L0.at (wpAny_bind (L1.at ?_)))))))
  show wpAny _ _ (holding [Value.builtin "object.__class__"] (call (Value.builtin "getset_descriptor.__get__") [Value.builtin "object.__class__", .ref x, .ref C]) >>= ret) _ _ _
  exact wpAny_bind (wpAny_holding (wpAny_call (x_class_get X I Z.mo (wpAny_pure h))))
theorem x_class {Q : Option Value → Shared → Prop} (X : K.In s.heap) (Z : XCls K C) (I : XAt x C s.heap) (h : Q (some (.ref C)) { s with toks := s.toks + 1 }) : wpAny (model prog w) A (getAttr? (.ref x) "__class__") Q E s := by
  obtain ⟨hh, g, d, t, os⟩ := s
  have L0 := I.ty (M := model prog w)
  have L1 := looks_findIn (M := model prog w) X Z.ga
  have L2 := looks_findIn (M := model prog w) X Z.gt
  unfold getAttr? getAttrBy? getAttrBy
  refine wpAny_bind (wpAny_mkText (wpAny_bind (wpAny_attempt (wpAny_holding (wpAny_bind (L0.at (wpAny_bind (L1.at ?_))))))))
  show wpAny _ _ (getAttrByItsOwn _ _ _ _ _ _) _ _ _
  unfold getAttrByItsOwn hookBefore
  refine wpAny_bind (L2.at ?_)
  refine wpAny_bind (wpAny_attempt (wpAny_holding ?_))
  show wpAny _ _ (boundAndCalled _ _ _) _ _ _
  unfold boundAndCalled
  refine wpAny_bind ?_
  rw [F.attr_LookupError.ga.bind (.ref x)]
  refine wpAny_pure (wpAny_call (x_call X Z I ?_))
  exact handed_on rfl (wpAny_pure h)
theorem kitx_exc (Z : XCls K C) : KitX K (.ref x) (.ref C) (XAt x C) where
  ty := fun _ _ _ I => I.ty
  it := fun _ _ X _ => by
    obtain ⟨cdD, hcD⟩ := Option.isSome_iff_exists.mp Z.cls
    unfold clsIn at hcD
    split at hcD
    · rename_i c' d' cd' sl' ho
      intro A' Q' E' s' k q
      unfold isType loadHead
      exact wpAny_bind (wpAny_loadPart (k _ _ (X _ _ ho)) (wpAny_pure q))
    · cases hcD
  ne := fun h tp dd its n sl X htp => by
    obtain ⟨cdD, hcD⟩ := Option.isSome_iff_exists.mp Z.cls
    refine Bool.eq_false_iff.mpr fun q => ?_
    have e : C = tp := Value.ref.inj (beq_iff_eq.mp q)
    subst e
    unfold clsIn at hcD
    split at hcD
    · rename_i c' d' cd' sl' ho
      have z := (X _ _ ho).symm.trans htp
      cases z
    · cases hcD
  ca := fun X I k => x_class X Z I k
/-- isinstance(e, c), e an exception -/
def isiX (xs : List V) (K : PySem.W.Frag) (H : Hp) (Q : V → Hp → Prop) : Prop := ∃ (a C : Addr) (c : V) (cv : Value) (b : Bool), xs = [.ref a, c] ∧ H a = some (excO a (.ref C)) ∧ XCls K C ∧ (∀ u, RelV c u → u = cv) ∧ PySem.W.kitOne K (.ref C) cv = some b ∧ Q (.bl b) H
theorem call_isX {X : Cx} : CallR X (.builtin "isinstance") (fun xs H Q => isiX xs X.K H Q) := by
  intro pins s σ H xs us Q I r h
  obtain ⟨a, C, c, cv, b, rfl, hH, Z, hc, hk, q⟩ := h
  obtain ⟨u, v, rfl, ru, rv⟩ := vals2 r
  cases (show u = Value.ref a from ru)
  cases hc v rv
  obtain ⟨o, vs, h1, h2, _⟩ := excO_get I hH
  exact PySem.W.kia_one (kitx_exc Z) I.kIn ⟨o, h1, h2⟩ hk (fun z => nomatch z) fun tk => ⟨.bl b, H, I.tok tk, rfl, q⟩
end
end L2

-- R5
set_option linter.all false
set_option maxRecDepth 100000
/-! more of texts and lists: slices, in, index, count, ==; dicts of the module -/
namespace L2
open PySem PySem.Spec PyProof.Rows K2
section
variable {X : Cx}
/-! ### slices of texts -/
theorem range_cut (a b : Nat) : sliceRange (a : Int) (b : Int) 1 = List.range' a (b - a) := by
  have e : ((if (a : Int) < b then ((b : Int) - a + 1 - 1) / 1 else 0 : Int)).toNat = b - a := by split <;> omega
  unfold sliceRange
  simp only [show (1 : Int) > 0 from by decide, if_true, e]
  rw [List.range'_eq_map_range]
  refine List.map_congr_left fun k _ => ?_
  omega
theorem idx_cut (n : Nat) (lo hi : Option Int) : Builtin.Str.strSliceIndices lo hi 1 n = List.range' (HT.sIx n 0 lo) (HT.sIx n n hi - HT.sIx n 0 lo) := by
  have clip : ∀ (v : Int) (d : Nat), (max 0 (min (if v < 0 then v + (n : Int) else v) (n : Int)) : Int) = ((HT.sIx n d (some v) : Nat) : Int) := fun v d => by
    unfold HT.sIx; dsimp only; split <;> omega
  rw [← range_cut]
  unfold Builtin.Str.strSliceIndices
  cases lo <;> cases hi <;> simp only [show (1 : Int) > 0 from by decide, if_true, clip _ 0, clip _ n] <;> rfl
theorem pick_cut {α : Type} (x : List α) (a k : Nat) (h : a + k ≤ x.length) : (List.range' a k).filterMap (x[·]?) = (x.drop a).take k := by
  induction k generalizing a with
  | zero => simp
  | succ k ih =>
    have ha : a < x.length := by omega
    rw [List.range'_succ, List.filterMap_cons, List.getElem?_eq_getElem ha, List.drop_eq_getElem_cons ha, List.take_succ_cons]
    simp only [List.cons.injEq, true_and]
    exact ih (a + 1) (by omega)
theorem sIx_bound (n : Nat) (lo hi : Option Int) : HT.sIx n 0 lo + (HT.sIx n n hi - HT.sIx n 0 lo) ≤ n := by
  have h1 := HT.sIx_le n 0 (Nat.zero_le _) lo
  have h2 := HT.sIx_le n n (Nat.le_refl _) hi
  omega
theorem slice_cut (x : T) (lo hi : Option Int) : (⟨((Builtin.Str.strSliceIndices lo hi 1 (S x).length).filterMap ((S x).cps[·]?)).toArray⟩ : Str) = S (cutT x lo hi) := by
  rw [len_S, idx_cut]
  unfold cutT
  rw [← pick_cut x _ _ (sIx_bound _ lo hi)]
  unfold S
  simp
theorem slice_whole (x : T) (lo hi : Option Int) (h : (Builtin.Str.strSliceIndices lo hi 1 (S x).length).length = (S x).length) : cutT x lo hi = x := by
  rw [len_S, idx_cut, List.length_range'] at h
  have b := sIx_bound x.length lo hi
  unfold cutT
  have h1 : HT.sIx x.length 0 lo = 0 := by omega
  rw [h, h1]
  simp
theorem cutT_le (x : T) (lo hi : Option Int) : (cutT x lo hi).length ≤ x.length := by
  unfold cutT; rw [List.length_take, List.length_drop]; omega
def rSlS : V → Option Int → Option Int → Hp → VK → Prop := fun x lo hi H Q => ∃ t : T, x = .str (S t) ∧ t.length ≤ 1000000 ∧ Q (.str (S (cutT t lo hi))) H
theorem part_is {u : Value} {o : Option Int} (p : IsPart u o) : ∃ l : Option (Int × Tok), u = partValue l ∧ l.map (·.1) = o := by
  cases p with
  | none => exact ⟨none, rfl, rfl⟩
  | int i t => exact ⟨some (i, t), rfl, rfl⟩
theorem sl_str : SlR X rSlS := by
  intro pins s σ H x v vl vu lo hi sl Q I rx hs pl pu h
  obtain ⟨t, rfl, hz, q⟩ := h
  obtain ⟨tk, rfl⟩ := rx
  obtain ⟨l, rfl, el⟩ := part_is pl
  obtain ⟨u, rfl, eu⟩ := part_is pu
  refine ⟨"str", _, PySem.F.slot_str_getitem.lookup, typeIs_str _ _ _, ?_⟩
  refine wpAny_getItem_str_slice (l := l) (u := u) (st := none) hs rfl ?_
  unfold sliceMade slicePicked
  rw [el, eu]
  split
  · rename_i c
    simp only [Option.map_none, Option.getD_none, Bool.and_eq_true, beq_iff_eq] at c
    show EP X pins σ Q (.str (S t) tk) s
    refine ⟨.str (S t), H, I, ⟨_, rfl⟩, ?_⟩
    have e := slice_whole t lo hi c.2
    rw [e] at q; exact q
  · simp only [Option.map_none, Option.getD_none]
    rw [slice_cut]
    refine ⟨?_, ⟨.str _, H, I.tok _, ⟨_, rfl⟩, q⟩⟩
    first
      | (show (S (cutT t lo hi)).length ≤ sizeLine; rw [len_S, sizeLine_eq]; have := cutT_le t lo hi; omega)
      | skip
/-! ### a sign in a text -/
theorem in_sign (x : T) (c : Nat) : (!(Builtin.Str.occurrences (S x) (S [c]) 0 (S x).length 1).isEmpty) = x.contains c := by
  have h := StrLaws.found_one (S x) c
  rw [show (S [c] : Str) = ⟨#[c]⟩ from rfl, h]
  show decide (c ∈ x) = _
  rw [List.contains_eq_mem]
def rInS : R2 := fun x y H Q => ∃ (c : Nat) (t : T), x = .str (S [c]) ∧ y = .str (S t) ∧ Q (.bl (t.contains c)) H
theorem op_in_sign : OpR X (compareOp .In) rInS := by
  intro pins s σ H x y v u Q I rx ry h
  obtain ⟨c, t, rfl, rfl, q⟩ := h
  refine op_in_str pins s σ H _ _ v u Q I rx ry ⟨_, _, rfl, rfl, ?_⟩
  rw [in_sign]; exact q
/-! ### list.count, list.index -/
theorem countP_eqU {x : V} : ∀ {xs : List V} {us : List Value}, Vals xs us → xs.all flatV = true → us.countP (eqU x) = xs.countP fun y => eqV y x
  | _, _, .nil, _ => rfl
  | _, _, .cons (a := y) (b := u) r t, f => by
    rw [List.all_cons, Bool.and_eq_true] at f
    rw [List.countP_cons, List.countP_cons, countP_eqU t f.2, eqU_of r f.1]
def rCount : V → List V → Hp → VK → Prop := fun x vs H Q => ∃ l xs y, x = .ref l ∧ vs = [y] ∧ H l = some (.lst xs) ∧ flatV y = true ∧ xs.all flatV = true ∧ Q (.int ((xs.countP fun z => eqV z y : Nat) : Int)) H
theorem mt_count : MtR X "list.count" rCount := by
  intro pins s σ H x vs v us Q I rx rv h
  obtain ⟨l, xs, y, rfl, rfl, hH, fy, fs, q⟩ := h
  cases rx
  obtain ⟨u, rfl, ru⟩ := rv.one
  obtain ⟨z, its, n, r, hl, e⟩ := I.lstM hH
  refine call_meets PySem.F.slot_list_count ⟨_, e, rfl⟩ PySem.F.entry_list_count (PySem.F.args_list_count_2 _ _) (SeqAt.list_countAt l its.toArray n none _ u (eqU y)) ⟨e, fun w hw => mem_eqAt ru fy r fs w (by simpa using hw), ?_⟩
  refine ⟨.int _, H, I.tok _, ⟨_, rfl⟩, ?_⟩
  rw [← countP_eqU r fs] at q; exact q
def rIndex : V → List V → Hp → VK → Prop := fun x vs H Q => ∃ (l : Addr) (xs : List V) (y : V) (j : Nat) (z : V), x = .ref l ∧ vs = [y] ∧ H l = some (.lst xs) ∧ flatV y = true ∧ xs.all flatV = true ∧ xs[j]? = some z ∧ eqV z y = true ∧ (∀ (m : Nat) (w : V), m < j → xs[m]? = some w → eqV w y = false) ∧ Q (.int (j : Int)) H
theorem all_get {xs : List V} {p : V → Bool} (h : xs.all p = true) {j : Nat} {z : V} (e : xs[j]? = some z) : p z = true := List.all_eq_true.mp h z (List.mem_of_getElem? e)
theorem mt_index : MtR X "list.index" rIndex := by
  intro pins s σ H x vs v us Q I rx rv h
  obtain ⟨l, xs, y, j, z, rfl, rfl, hH, fy, fs, hj, hz, hno, q⟩ := h
  cases rx
  obtain ⟨u, rfl, ru⟩ := rv.one
  obtain ⟨zz, its, n, r, hl, e⟩ := I.lstM hH
  obtain ⟨w, hw, rw'⟩ := r.get hj
  have hj' : j < its.toArray.size := by rw [List.size_toArray]; exact (List.getElem?_eq_some_iff.mp hw).1
  have at_ : ∀ m (hm : m < its.toArray.size), its[m]? = some its.toArray[m] := fun m hm => by rw [List.size_toArray] at hm; simp [List.getElem?_eq_getElem hm]
  refine call_meets PySem.F.slot_list_index ⟨_, e, rfl⟩ PySem.F.entry_list_index (PySem.F.args_list_index_2 _ _) (SeqAt.list_indexAt l its.toArray n none _ u (eqU y) j hj' ?_ ?_ ?_) ⟨e, fun w hw => mem_eqAt ru fy r fs w (by simpa using hw), ?_⟩
  · have : its.length ≤ sizeLine := by rw [← hl]; exact zz
    rw [sizeLine_eq] at this
    rw [List.size_toArray] at hj'
    omega
  · have e2 := at_ j hj'
    rw [hw] at e2; cases e2
    rw [eqU_of rw' (all_get fs hj)]; exact hz
  · intro m hm hlt
    have e2 := at_ m hm
    have hm2 : m < xs.length := by rw [hl]; simpa using hm
    obtain ⟨w2, hw2, rw2⟩ := r.get (List.getElem?_eq_getElem hm2)
    rw [hw2] at e2; cases e2
    rw [eqU_of rw2 (all_get fs (List.getElem?_eq_getElem hm2))]; exact hno m _ hlt (List.getElem?_eq_getElem hm2)
  · exact ⟨.int _, H, I.tok _, ⟨_, rfl⟩, q⟩
/-! ### xs[::-1] -/
theorem fm_congr {α β : Type} {f g : α → Option β} : ∀ {l : List α}, (∀ x ∈ l, f x = g x) → l.filterMap f = l.filterMap g
  | [], _ => rfl
  | x :: l, h => by rw [List.filterMap_cons, List.filterMap_cons, h x (.head _), fm_congr fun y hy => h y (.tail _ hy)]
theorem pick_rev (its : List Value) : slicePick its.toArray none none (some (-1)) = its.reverse.toArray := by
  have e1 : sliceRange ((its.length : Int) - 1) (-1) (-1) = (List.range its.length).map fun k => its.length - 1 - k := by
    have e : ((if ((its.length : Int) - 1) > -1 then (((its.length : Int) - 1) - (-1) - (-1) - 1) / (-(-1)) else 0 : Int)).toNat = its.length := by rw [show (-(-1) : Int) = 1 from rfl, Int.ediv_one]; split <;> omega
    unfold sliceRange
    simp only [show ¬ ((-1 : Int) > 0) from by decide, if_false, e]
    refine List.map_congr_left fun k hk => ?_
    have := List.mem_range.mp hk
    omega
  unfold slicePick sliceBounds
  simp only [Option.getD_some, List.size_toArray, show ¬ ((-1 : Int) > 0) from by decide, if_false, e1]
  congr 1
  rw [List.filterMap_map]
  have e2 : (List.range its.length).filterMap ((fun i => its.toArray[i]?) ∘ fun k => its.length - 1 - k) = (List.range its.length).filterMap (its.reverse[·]?) := by
    refine fm_congr fun k hk => ?_
    have := List.mem_range.mp hk
    simp only [Function.comp_apply, List.getElem?_toArray]
    rw [List.getElem?_reverse this]
  rw [e2, List.range_eq_range', pick_cut _ _ _ (by simp)]
  exact List.take_of_length_le (by simp)
def tRev (K : PySem.W.Frag) (te : TE) : TE := fun σ H Q => te σ H fun x H1 => ∃ a xs, x = .ref a ∧ SqL K H1 a xs ∧ ∀ p, H1 p = none → Q (.ref p) (upd H1 p (.lst xs.reverse))
theorem pe_rev {e : Expr} {te : TE} {j : Nat} {p1 p2 p3 pos : Pos} (he : PE X e te) : PE X (.Subscript e (.Slice none none (some (.UnaryOp .USub (.Constant (.int 1) j p1) p3)) p2) pos) (tRev X.K te) := by
  intro pins s σ H Q I h
  refine Subscript_ (thn (he pins s σ H _ I h) fun v s1 ⟨x, H1, I1, r1, a, xs, ex, hx, q1⟩ => ?_)
  subst ex
  cases r1
  refine wpAny_Slice ?_
  rw [evalPart_none]
  refine wpAny_pure (wpAny_pure ?_)
  have hp : PO X (some (.UnaryOp .USub (.Constant (.int 1) j p1) p3)) (tPart (tUn (rU fun i => .int (-i)) (tC (.int 1)))) := po_some (pe_un un_neg pe_int)
  refine thn (hp pins s1 σ H1 (fun o H' => o = some (-1) ∧ H' = H1) I1 ⟨1, rfl, -1, rfl, rfl, rfl⟩) fun vs s2 ⟨o, H2, I2, po, eo, eH⟩ => ?_
  subst eo eH
  have I4 : Inv X pins σ H2 { s2 with heap := s2.heap.push { cls := .type "slice", data := .fields #[.none, .none, vs] } } := I2.kept (t' := s2.toks) fun b ob q => Heap.get?_push_of_some _ q
  obtain ⟨its, r, ht, hz⟩ := I4.list hx
  have hlen := r.length
  refine tail_any (T := "list") (ops := [.ref a, .ref s2.heap.objs.size]) ht.isList.typeIs slot_list_getitem.lookup ?_ (by with_unfolding_all rfl)
  refine wpAny_getItem_list_slice ht.isList (Heap.IsSliceOf.new ..) .none .none po (by simp) ?_ (by rw [List.size_toArray] <;> omega)
  rw [pick_rev]
  refine ⟨.ref _, _, I4.laid (t' := s2.toks) (o := .lst xs.reverse) (fun b ob q => Heap.get?_push_of_some _ q) (Nat.le_refl _) ?_, rfl, q1 _ (I4.hok.fresh (Nat.le_refl _))⟩
  exact ⟨by rw [List.length_reverse]; exact hz, _, 0, r.reverse, Heap.get?_push_size _ rfl⟩
/-! ### == and != -/
theorem op_eqL0 (hu : X.A.units < cLine) : OpR X (compareOp .Eq) (fun x y H Q => ∃ a b xs, x = .ref a ∧ y = .ref b ∧ SqL X.K H a xs ∧ SqL X.K H b [] ∧ Q (.bl xs.isEmpty) H) := by
  intro pins s σ H x y v u Q I rx ry h
  obtain ⟨a, b, xs, rfl, rfl, ha, hb, q⟩ := h
  cases rx; cases ry
  obtain ⟨its, r, pl, _⟩ := I.list ha
  obtain ⟨its2, r2, pl2, _⟩ := I.list hb
  cases r2
  cases xs with
  | nil =>
    cases r
    refine SeqAt.eq_listAt (e := fun _ => true) pl.isList pl2.isList rfl hu (fun j h1 _ => absurd h1 (by simp)) ⟨.bl true, H, I, rfl, q⟩
  | cons z zs =>
    cases r with
    | cons rz rzs => exact SeqAt.eq_list_lengthsAt pl.isList pl2.isList (by simp) hu ⟨.bl false, H, I, rfl, q⟩
end
end L2

-- R6
set_option linter.all false
set_option maxRecDepth 100000
/-! how data lie in the heap; a def with its promise -/
namespace L2
open PySem PySem.Spec PyProof.Rows K2

mutual
def Rep (H : Hp) : PV → V → Prop
  | .at .non, v => v = .non
  | .at (.int i), v => v = .int i
  | .at (.str x), v => v = .str (S x) ∧ x.length ≤ 1000000
  | .tup ps, v => ∃ a vs, v = .ref a ∧ H a = some (.tup vs) ∧ Reps H ps vs
def Reps (H : Hp) : List PV → List V → Prop
  | [], vs => vs = []
  | p :: ps, vs => ∃ v r, vs = v :: r ∧ Rep H p v ∧ Reps H ps r
end
def Tups (H H' : Hp) : Prop := ∀ b xs, H b = some (.tup xs) → H' b = some (.tup xs)
mutual
theorem Rep.mono {H H' : Hp} (h : Tups H H') : ∀ (p : PV) (v : V), Rep H p v → Rep H' p v
  | .at .non, v, r => r
  | .at (.int i), v, r => r
  | .at (.str x), v, r => r
  | .tup ps, v, r => by
    simp only [Rep] at r ⊢
    obtain ⟨a, vs, e, h1, h2⟩ := r
    exact ⟨a, vs, e, h a vs h1, Reps.mono h ps vs h2⟩
theorem Reps.mono {H H' : Hp} (h : Tups H H') : ∀ (ps : List PV) (vs : List V), Reps H ps vs → Reps H' ps vs
  | [], vs, r => r
  | p :: ps, vs, r => by
    simp only [Reps] at r ⊢
    obtain ⟨v, t, e, h1, h2⟩ := r
    exact ⟨v, t, e, Rep.mono h p v h1, Reps.mono h ps t h2⟩
end
theorem Reps.len {H : Hp} : ∀ {ps : List PV} {vs : List V}, Reps H ps vs → ps.length = vs.length
  | [], vs, r => by simp only [Reps] at r; subst r; rfl
  | p :: ps, vs, r => by
    simp only [Reps] at r
    obtain ⟨v, t, rfl, _, h2⟩ := r
    simp [Reps.len h2]
theorem Reps.get {H : Hp} : ∀ {ps : List PV} {vs : List V} {i : Nat} {v : V}, Reps H ps vs → vs[i]? = some v → ∃ p, ps[i]? = some p ∧ Rep H p v
  | [], vs, i, v, r, e => by simp only [Reps] at r; subst r; simp at e
  | p :: ps, vs, i, v, r, e => by
    simp only [Reps] at r
    obtain ⟨w, t, rfl, h1, h2⟩ := r
    cases i with
    | zero => simp at e; subst e; exact ⟨p, rfl, h1⟩
    | succ i => simp at e ⊢; exact Reps.get h2 e
theorem Reps.get' {H : Hp} {ps : List PV} {vs : List V} {i : Nat} {p : PV} (r : Reps H ps vs) (e : ps[i]? = some p) : ∃ v, vs[i]? = some v ∧ Rep H p v := by
  have h1 : i < vs.length := by rw [← r.len]; exact (List.getElem?_eq_some_iff.mp e).1
  obtain ⟨q, h2, h3⟩ := r.get (List.getElem?_eq_getElem h1)
  rw [e] at h2; cases h2
  exact ⟨_, List.getElem?_eq_getElem h1, h3⟩
theorem Reps.append {H : Hp} : ∀ {ps qs : List PV} {vs ws : List V}, Reps H ps vs → Reps H qs ws → Reps H (ps ++ qs) (vs ++ ws)
  | [], _, vs, _, r, s => by simp only [Reps] at r; subst r; exact s
  | p :: ps, qs, vs, ws, r, s => by
    simp only [Reps] at r
    obtain ⟨v, t, rfl, h1, h2⟩ := r
    simp only [List.cons_append, Reps]
    exact ⟨v, t ++ ws, rfl, h1, Reps.append h2 s⟩
theorem Reps.one {H : Hp} {p : PV} {v : V} (h : Rep H p v) : Reps H [p] [v] := by simp only [Reps]; exact ⟨v, [], rfl, h, rfl⟩
theorem Reps.nil {H : Hp} : Reps H [] [] := by simp only [Reps]
theorem Reps.cons {H : Hp} {p : PV} {ps : List PV} {v : V} {vs : List V} (h : Rep H p v) (t : Reps H ps vs) : Reps H (p :: ps) (v :: vs) := by simp only [Reps]; exact ⟨v, vs, rfl, h, t⟩
theorem Reps.drop {H : Hp} : ∀ (n : Nat) {ps : List PV} {vs : List V}, Reps H ps vs → Reps H (ps.drop n) (vs.drop n)
  | 0, _, _, r => r
  | n + 1, [], vs, r => by simp only [Reps] at r; subst r; exact Reps.nil
  | n + 1, p :: ps, vs, r => by
    simp only [Reps] at r
    obtain ⟨v, t, rfl, h1, h2⟩ := r
    exact Reps.drop n h2
theorem Reps.take {H : Hp} : ∀ (n : Nat) {ps : List PV} {vs : List V}, Reps H ps vs → Reps H (ps.take n) (vs.take n)
  | 0, _, _, r => Reps.nil
  | n + 1, [], vs, r => by simp only [Reps] at r; subst r; exact Reps.nil
  | n + 1, p :: ps, vs, r => by
    simp only [Reps] at r
    obtain ⟨v, t, rfl, h1, h2⟩ := r
    exact Reps.cons h1 (Reps.take n h2)
theorem Same.tups {H H' : Hp} (h : Same H H') : Tups H H' := fun b xs e => h b _ e
theorem Tups.refl (H : Hp) : Tups H H := fun _ _ e => e
theorem Tups.trans {H H1 H2 : Hp} (a : Tups H H1) (b : Tups H1 H2) : Tups H H2 := fun c xs e => b c xs (a c xs e)
theorem same_new {H : Hp} {p : Addr} (h : H p = none) (o : HO) : Same H (upd H p o) := fun b u q => by rw [upd_ne (ne_of_none q h)]; exact q
theorem Same.rep {H H' : Hp} (h : Same H H') {p : PV} {v : V} (r : Rep H p v) : Rep H' p v := Rep.mono h.tups p v r
theorem Same.reps {H H' : Hp} (h : Same H H') {p : List PV} {v : List V} (r : Reps H p v) : Reps H' p v := Reps.mono h.tups p v r
theorem Same.sqt {K : PySem.W.Frag} {H H' : Hp} (h : Same H H') {a : Addr} {xs : List V} (r : SqT K H a xs) : SqT K H' a xs := by
  rcases r with (r | ⟨o, r⟩) | r
  · exact .inl (.inl (h _ _ r))
  · exact .inl (.inr ⟨o, h _ _ r⟩)
  · exact .inr r
theorem Rep.tup {H : Hp} {ps : List PV} {v : V} (r : Rep H (.tup ps) v) : ∃ a vs, v = .ref a ∧ H a = some (.tup vs) ∧ Reps H ps vs := by simpa only [Rep] using r
theorem Rep.mk {H : Hp} {ps : List PV} {a : Addr} {vs : List V} (h : H a = some (.tup vs)) (r : Reps H ps vs) : Rep H (.tup ps) (.ref a) := by simp only [Rep]; exact ⟨a, vs, rfl, h, r⟩
theorem Rep.ty {K : PySem.W.Frag} {H : Hp} : ∀ {p : PV} {v : V}, Rep H p v → ∃ t, TyOf K H v (.type t) ∧ ((∃ xs, p = .tup xs ∧ t = "tuple") ∨ (∃ i, p = .at (.int i) ∧ t = "int") ∨ (∃ x, p = .at (.str x) ∧ t = "str") ∨ (p = .at .non ∧ t = "NoneType"))
  | .at .non, v, r => by simp only [Rep] at r; subst r; exact ⟨_, .non, .inr (.inr (.inr ⟨rfl, rfl⟩))⟩
  | .at (.int i), v, r => by simp only [Rep] at r; subst r; exact ⟨_, .int i, .inr (.inl ⟨i, rfl, rfl⟩)⟩
  | .at (.str x), v, r => by simp only [Rep] at r; obtain ⟨r, _⟩ := r; subst r; exact ⟨_, .str _, .inr (.inr (.inl ⟨x, rfl, rfl⟩))⟩
  | .tup ps, v, r => by obtain ⟨a, vs, rfl, h, _⟩ := r.tup; exact ⟨_, .tup h, .inl ⟨ps, rfl, rfl⟩⟩

/-- a def of the module, with its promise -/
structure Has (P : Program) (w : World) (K : PySem.W.Frag) (mg : Str → Option Value) (base : Heap) (CX : CXT) (k : Nat) (x : Str) (ps : List Str) (sp : Sp) : Prop where
  ex : ∃ f fd, FnOk P w K mg base CX k f fd ps sp ∧ Binds K fd ps [] ∧ mg x = some (.ref f) ∧ PySem.W.keepIn K (.ref f) = true
theorem pe_callH {X : Cx} {CX : CXT} {k j : Nat} {x : Str} {ps : List Str} {sp : Sp} {E : XK} {p pos : Pos} {e : Expr} {es : List Expr} {t : TA} (h : Has X.prog X.w X.K X.mg X.base CX k x ps sp) (hr : Room j X.A) (hg : Gl X x) (hx : Passes CX X E) (ha : PA X (e :: es) t) (hkj : k ≤ j := by first | decide | omega)
    (hdb : (x == ("__debug__" : Str)) = false := by decide) (he : starEach (e :: es) X.env = (false, eval e X.env) :: starEach es X.env := by rfl) (hpl : (backTo pos (starEach es X.env)).any (·.1) = false := by rfl) :
    PE X (.Call (.Name x p) (e :: es) [] pos) (tCall sp [] E t) := by
  obtain ⟨f, fd, F, B, m, kp⟩ := h.ex
  exact pe_call F (hr.mono hkj) hg m kp B .nil hx ha hdb he hpl
end L2
namespace L2
open PySem PySem.Spec PyProof.Rows K2
mutual
def dp : PV → Nat
  | .at _ => 0
  | .tup ps => dps ps + 1
def dps : List PV → Nat
  | [] => 0
  | p :: ps => max (dp p) (dps ps)
end
section
variable {X : Cx} {pins : List (Addr × Obj)} {σ : St} {H : Hp} {s : Shared}
theorem in1_units {A : Around} : A.in1.units = A.units + 1 := rfl
mutual
/-- what lies there twice compares as one -/
theorem eqRep (I : Inv X pins σ H s) : ∀ (p : PV) (x y : V) (u w : Value) (A : Around), A.units + dp p < cLine → Rep H p x → Rep H p y → RelV x u → RelV y w → SeqAt.EqAt A s u w true
  | .at .non, x, y, u, w, A, _, rx, ry, hu, hw => by
    simp only [Rep] at rx ry; subst rx ry
    exact eqAt_V hu hw rfl rfl
  | .at (.int i), x, y, u, w, A, _, rx, ry, hu, hw => by
    simp only [Rep] at rx ry; subst rx ry
    have := eqAt_V (A := A) (s := s) hu hw rfl rfl
    simpa [eqV] using this
  | .at (.str z), x, y, u, w, A, _, rx, ry, hu, hw => by
    simp only [Rep] at rx ry; obtain ⟨rx, _⟩ := rx; obtain ⟨ry, _⟩ := ry; subst rx ry
    have := eqAt_V (A := A) (s := s) hu hw rfl rfl
    simpa [eqV] using this
  | .tup ps, x, y, u, w, A, hA, rx, ry, hu, hw => by
    obtain ⟨a, vs, rfl, ha, ra⟩ := rx.tup
    obtain ⟨b, ws, rfl, hb, rb⟩ := ry.tup
    cases hu; cases hw
    by_cases e : a = b
    · subst e; exact SeqAt.EqAt.same _
    · obtain ⟨i1, r1, t1, _⟩ := I.tuple (SqT.of (K := X.K) ha)
      obtain ⟨i2, r2, t2, _⟩ := I.tuple (SqT.of (K := X.K) hb)
      have l1 := r1.length
      have l2 := r2.length
      have l3 := ra.len
      have l4 := rb.len
      simp only [dp] at hA
      have := SeqAt.RcAt.tuples (A := A) (s := s) (e := fun _ => true) t1 t2 (by omega) fun j h1 h2 => by
        simp only [List.size_toArray] at h1 h2
        exact eqReps I ps vs ws i1 i2 A.in1 (by rw [in1_units]; omega) ra rb r1 r2 j _ _ (by simp [List.getElem?_eq_getElem h1]) (by simp [List.getElem?_eq_getElem h2])
      refine SeqAt.EqAt.of_refs e ?_
      have e2 : ((List.range (min i1.toArray.size i2.toArray.size)).all (fun _ => true) && i1.toArray.size == i2.toArray.size) = true := by
        simp only [List.size_toArray, Bool.and_eq_true, List.all_eq_true, beq_iff_eq]
        exact ⟨fun _ _ => by trivial, by omega⟩
      rw [e2] at this
      exact this
theorem eqReps (I : Inv X pins σ H s) : ∀ (ps : List PV) (xs ys : List V) (us ws : List Value) (A : Around), A.units + dps ps < cLine → Reps H ps xs → Reps H ps ys → Vals xs us → Vals ys ws → ∀ (j : Nat) (u w : Value), us[j]? = some u → ws[j]? = some w → SeqAt.EqAt A s u w true
  | [], xs, ys, us, ws, A, _, rx, ry, hu, hw, j, u, w, e1, e2 => by
    simp only [Reps] at rx; subst rx
    cases hu; simp at e1
  | p :: ps, xs, ys, us, ws, A, hA, rx, ry, hu, hw, j, u, w, e1, e2 => by
    simp only [Reps] at rx ry
    obtain ⟨x, xr, rfl, rx1, rx2⟩ := rx
    obtain ⟨y, yr, rfl, ry1, ry2⟩ := ry
    cases hu with
    | cons hu1 hu2 =>
    cases hw with
    | cons hw1 hw2 =>
    simp only [dps] at hA
    cases j with
    | zero => simp at e1 e2; subst e1 e2; exact eqRep I p x y _ _ A (by omega) rx1 ry1 hu1 hw1
    | succ j => simp at e1 e2; exact eqReps I ps xr yr _ _ A (by omega) rx2 ry2 hu2 hw2 j u w e1 e2
end
/-- p != p is False -/
theorem op_neRep : OpR X (compareOp .NotEq) (fun x y H Q => ∃ ps, X.A.units + dp (.tup ps) < cLine ∧ Rep H (.tup ps) x ∧ Rep H (.tup ps) y ∧ Q (.bl false) H) := by
  intro pins s σ H x y v u Q I rx ry h
  obtain ⟨ps, hA, h1, h2, q⟩ := h
  obtain ⟨a, vs, rfl, ha, ra⟩ := h1.tup
  obtain ⟨b, ws, rfl, hb, rb⟩ := h2.tup
  cases rx; cases ry
  obtain ⟨i1, r1, t1, _⟩ := I.tuple (SqT.of (K := X.K) ha)
  obtain ⟨i2, r2, t2, _⟩ := I.tuple (SqT.of (K := X.K) hb)
  have l1 := r1.length
  have l2 := r2.length
  have l3 := ra.len
  have l4 := rb.len
  simp only [dp] at hA
  refine SeqAt.RcNeAt.tuples (A := X.A) (s := s) (e := fun _ => true) t1 t2 (by omega) (fun j h1 h2 => ?_) _ _ _ _ ⟨.bl false, H, I, ?_, q⟩
  · simp only [List.size_toArray] at h1 h2
    exact eqReps I ps vs ws i1 i2 X.A.in1 (by rw [in1_units]; omega) ra rb r1 r2 j _ _ (by simp [List.getElem?_eq_getElem h1]) (by simp [List.getElem?_eq_getElem h2])
  · have e2 : ((List.range (min i1.toArray.size i2.toArray.size)).all (fun _ => true) && i1.toArray.size == i2.toArray.size) = true := by
      simp only [List.size_toArray, Bool.and_eq_true, List.all_eq_true, beq_iff_eq]
      exact ⟨fun _ _ => by trivial, by omega⟩
    rw [e2]; rfl
/-- pairs of flat things, compared -/
theorem op_neFlat (hu : X.A.units < cLine) : OpR X (compareOp .NotEq) (fun x y H Q => ∃ a b x1 x2 y1 y2, x = .ref a ∧ y = .ref b ∧ H a = some (.tup [x1, x2]) ∧ H b = some (.tup [y1, y2]) ∧ flatV x1 = true ∧ flatV x2 = true ∧ flatV y1 = true ∧ flatV y2 = true ∧ Q (.bl (!(eqV x1 y1 && eqV x2 y2))) H) := by
  intro pins s σ H x y v u Q I rx ry h
  obtain ⟨a, b, x1, x2, y1, y2, rfl, rfl, ha, hb, f1, f2, f3, f4, q⟩ := h
  cases rx; cases ry
  obtain ⟨i1, r1, t1, _⟩ := I.tuple (SqT.of (K := X.K) ha)
  obtain ⟨i2, r2, t2, _⟩ := I.tuple (SqT.of (K := X.K) hb)
  obtain ⟨u1, u2, rfl, s1, s2⟩ := r1.two
  obtain ⟨w1, w2, rfl, s3, s4⟩ := r2.two
  refine SeqAt.RcNeAt.tuples (A := X.A) (s := s) (e := fun j => if j = 0 then eqV x1 y1 else eqV x2 y2) t1 t2 hu (fun j h1 h2 => ?_) _ _ _ _ ⟨.bl (!(eqV x1 y1 && eqV x2 y2)), H, I, ?_, q⟩
  · have : j = 0 ∨ j = 1 := by simp at h1; omega
    rcases this with rfl | rfl
    · exact eqAt_V s1 s3 f1 f3
    · exact eqAt_V s2 s4 f2 f4
  · show Value.bool _ = Value.bool _
    congr 2
    simp [List.range_succ]
end
end L2

-- R7
set_option linter.all false
set_option maxRecDepth 100000
/-! dicts that the module's top has made; a function in a local name -/
namespace L2
open PySem PySem.Spec PyProof.Rows K2

def valK (kvs : List (Str × V)) (x : Str) : Option V := kvs.lookup x
/-- the dict at a, as the top has left it -/
structure KDict (P : Program) (w : World) (K : PySem.W.Frag) (a : Addr) (kvs : List (Str × V)) : Prop where
  ns : (a == sysModules) = false
  at_ : ∀ h, K.In h → ∃ vs : List (Key × Value), KV (kvs.map fun p => ((Sum.inr p.1 : Key), p.2)) vs ∧ h.DictOf (mixKind P w) a vs
theorem kv_val (x : Str) : ∀ {kvs : List (Str × V)} {vs : List (Key × Value)}, KV (kvs.map fun p => ((Sum.inr p.1 : Key), p.2)) vs → RelO (valK kvs x) (valueAt vs (Sum.inr x : Key))
  | [], _, r => by cases r; exact True.intro
  | (y, v) :: t, _, r => by
    cases r with
    | @cons _ q _ qs h1 h2 =>
    obtain ⟨k, u⟩ := q
    obtain ⟨e, rv⟩ := h1
    simp only at e rv
    subst e
    unfold valK valueAt
    rw [List.lookup_cons, List.find?_cons]
    by_cases hx : x = y
    · subst hx
      simp only [beq_self_eq_true, decide_true]
      exact rv
    · have h3 : (x == y) = false := by simpa using hx
      have h4 : decide ((Sum.inr y : Key) = Sum.inr x) = false := by simp only [decide_eq_false_iff_not]; intro z; exact hx (by injection z with z; exact z.symm)
      simp only [h3, h4]
      exact kv_val x h2
theorem key_is {P : Program} {w : World} {x : Str} {u : Value} (r : RelV (.str x) u) : (mixKind P w).is (Sum.inr x) u = true := by
  obtain ⟨t, e⟩ := (show ∃ t, u = Value.str x t from r); subst e; exact mixKind_str P w x t
section
variable {X : Cx} {T id : String} {name : Str} {r : V → List V → Hp → VK → Prop} {o e : Expr} {es : List Expr} {to : TE} {t : TA} {apos cpos pos : Pos}
/-- a method of a built-in kind; ty: how its kind is known -/
theorem pe_bmG {ty : V → Hp → Prop} (hT : ∀ (pins : List (Addr × Obj)) (σ : St) (H : Hp) (s : Shared) (x : V) (v : Value), Inv X pins σ H s → RelV x v → ty x H → s.TypeIs v T ∧ ∀ a, v = .ref a → ∃ ob, s.heap.get? a = some ob ∧ ob.dict = none)
    (pa : PlainAttrs T) (slot : Slot T name id) (hty : typeOf (.builtin id) = pure (.type "method_descriptor")) (hm : MtR X id r) (ho : PE X o to) (ha : PA X (e :: es) t)
    (hbase : attributeBase o name X.env (eval o X.env) = eval o X.env := by rfl)
    (hfew : ((backTo cpos (starEach (e :: es) X.env)).all (fun x => !x.1) && (backToKw cpos (keywordEach [] X.env)).all (fun x => x.1.isSome) && decide ((e :: es).length + ([] : List Keyword).length + (if ([] : List Keyword).isEmpty then 0 else 1) < 30)) = true := by rfl)
    (hline : (apos.endLine == cpos.line) = true := by rfl) (hs : starEach (e :: es) X.env = (false, eval e X.env) :: starEach es X.env := by rfl) (hplain : (backTo cpos (starEach es X.env)).any (·.1) = false := by rfl) :
    PE X (.Call (.Attribute o name apos) (e :: es) [] cpos) (fun σ H Q => to σ H fun x H1 => ty x H1 ∧ t σ H1 fun xs H2 => r x xs H2 Q) := by
  intro pins s σ H Q I h
  refine wpAny_Call_method_late hbase hfew hline rfl (thn (ho pins s σ H _ I h) fun v s1 ⟨x, H1, I1, r1, q0, q1⟩ => ?_)
  obtain ⟨h1, h2⟩ := hT _ _ _ _ x v I1 r1 q0
  have hA := ha cpos pins s1 σ H1 _ I1 q1
  refine ⟨T, id, pa, slot, hty, h1, h2, ?_⟩
  rw [hs] at hA ⊢
  exact Calls.callWith_builtin (by show (false || (backTo cpos (starEach es X.env)).any (·.1)) = false; rw [hplain] <;> rfl) (Calls.evalArgs_plain (thn hA fun us s2 ⟨vs, H2, I2, r2, q2⟩ => hm pins s2 σ H2 x vs v us Q I2 r1 r2 q2))
variable {a : Addr} {kvs : List (Str × V)}
def isK (a : Addr) : V → Hp → Prop := fun x _ => x = .ref a
theorem kd_type (D : KDict X.prog X.w X.K a kvs) : ∀ (pins : List (Addr × Obj)) (σ : St) (H : Hp) (s : Shared) (x : V) (v : Value), Inv X pins σ H s → RelV x v → isK a x H → s.TypeIs v "dict" ∧ ∀ a, v = .ref a → ∃ ob, s.heap.get? a = some ob ∧ ob.dict = none := fun pins σ H s x v I rx e => by
  cases (show x = .ref a from e)
  cases rx
  obtain ⟨vs, _, dd⟩ := D.at_ _ I.kIn
  refine ⟨dd.typeIs, fun b q => ?_⟩
  cases q
  obtain ⟨ob, _, _, h1, h2, _⟩ := dd
  exact ⟨ob, h1, h2.2.1⟩
def rKGet (a : Addr) (kvs : List (Str × V)) : V → List V → Hp → VK → Prop := fun x vs H Q => x = .ref a ∧ ∃ y, (vs = [.str y] ∧ Q ((valK kvs y).getD .non) H) ∨ ∃ d, vs = [.str y, d] ∧ Q ((valK kvs y).getD d) H
theorem relO_getD {o : Option V} {p : Option Value} {d : V} {u : Value} (r : RelO o p) (rd : RelV d u) : RelV (o.getD d) (p.getD u) := by
  cases o <;> cases p <;> first | exact rd | exact r | cases r
theorem mt_kget (D : KDict X.prog X.w X.K a kvs) : MtR X "dict.get" (rKGet a kvs) := by
  intro pins s σ H x vs v us Q I rx rv h
  obtain ⟨rfl, y, ⟨rfl, q⟩ | ⟨d, rfl, q⟩⟩ := h
  · cases rx
    obtain ⟨u, rfl, ru⟩ := rv.one
    obtain ⟨vs, rel, dd⟩ := D.at_ _ I.kIn
    exact call_meetsIn PySem.F.slot_dict_get dd.typeIs PySem.F.entry_dict_get (PySem.F.args_dict_get_2 _ _) (meets_dict_get (mixKind X.prog X.w) a (key_is ru) D.ns) ⟨_, dd.mapOf, ⟨_, H, I.tok _, relO_getD (d := .non) (kv_val y rel) rfl, q⟩⟩
  · cases rx
    obtain ⟨u, u2, rfl, ru, ru2⟩ := rv.two
    obtain ⟨vs, rel, dd⟩ := D.at_ _ I.kIn
    exact call_meetsIn PySem.F.slot_dict_get dd.typeIs PySem.F.entry_dict_get (PySem.F.args_dict_get_3 _ _ _) (meets_dict_get_default (mixKind X.prog X.w) a (key_is ru) D.ns u2) ⟨_, dd.mapOf, ⟨_, H, I.tok _, relO_getD (kv_val y rel) ru2, q⟩⟩
def rKIx (a : Addr) (kvs : List (Str × V)) : R2 := fun x y H Q => ∃ z v, x = .ref a ∧ y = .str z ∧ valK kvs z = some v ∧ Q v H
theorem ix_kdict (D : KDict X.prog X.w X.K a kvs) : IxR X (rKIx a kvs) := by
  intro value slice pins s σ H x y v u Q I rx ry h hs
  obtain ⟨z, w', rfl, rfl, hz, q⟩ := h
  cases rx
  obtain ⟨vs, rel, dd⟩ := D.at_ _ I.kIn
  have h1 := kv_val z rel
  rw [hz] at h1
  obtain ⟨uu, hw, ru⟩ := RelO.some_of h1
  exact tail_any dd.typeIs PySem.F.slot_dict_getitem.lookup (wpAny_getItem_of (key_is ry) dd.mapOf hw ⟨w', H, I.tok _, ru, q⟩) hs
/-- check(thing): the function that a name of one's own holds -/
theorem pe_callV {k : Nat} {x : Str} {p : Pos} (i : Nat) (hr : Room k X.A) (ha : PA X (e :: es) t) (hN : X.N[i]? = some x := by rfl) (hl : X.env.scope.names.lookup x = some .local := by rfl)
    (hdb : (x == ("__debug__" : Str)) = false := by decide) (he : starEach (e :: es) X.env = (false, eval e X.env) :: starEach es X.env := by rfl) (hpl : (backTo pos (starEach es X.env)).any (·.1) = false := by rfl) :
    PE X (.Call (.Name x p) (e :: es) [] pos) (fun σ H Q => ∃ f fd ps sp, σ[i]? = some (some (.ref f)) ∧ FnOk X.prog X.w X.K X.mg X.base CX0 k f fd ps sp ∧ Binds X.K fd ps [] ∧ PySem.W.keepIn X.K (.ref f) = true ∧ t σ H fun vs H1 => sp (vs ++ []) H1 Q E0) := by
  intro pins s σ H Q I h
  obtain ⟨f, fd, ps, sp, e1, F, B, kp, h⟩ := h
  obtain ⟨m, hn, hll⟩ := I.loc
  obtain ⟨u, r, l⟩ := hll i x _ hN e1 (.inl hl)
  cases r
  have hm : m x = some (.ref f) := by
    rcases l with ⟨_, hm⟩ | ⟨hk, _⟩
    · exact hm
    · rcases hk with hk | hk <;> (rw [show X.env.kindOf x = some .local from hl] at hk; cases hk)
  refine wpAny_Call_Name_kw (wpAny_Name (wpAny_loadName_local I.ok.kind hl hn hm ?_) hdb)
  refine PySem.W.callWith_K (h₀ := X.base) I.ok.mod.kin kp (thn (ha pos pins s σ H _ I h) fun us s1 ⟨vs, H1, I1, r, q⟩ => ⟨I1.kIn, ?_⟩) he hpl
  exact run_fn F hr B .nil pass0 I1 r q
end
/-! ### blocks and loops, turn by turn -/
def Wc (n : Nat) (Iv : Nat → List V → Hp → Prop) : Nat → Nat → List V → Hp → Prop := fun i m ys H => i ≤ n ∧ m = n - i ∧ Iv i ys H
theorem Wc.next {n : Nat} {Iv : Nat → List V → Hp → Prop} {i : Nat} {ys : List V} {H : Hp} (hi : i < n) (h : Iv (i + 1) ys H) : ∃ m', m' < n - i ∧ Wc n Iv (i + 1) m' ys H := ⟨n - (i + 1), by omega, by omega, rfl, h⟩
theorem comp_go {J : It} {n k : Nat} {g : TG} {tt : TT} {te : TE} {σ : St} {H0 : Hp} {Q : Addr → List V → Hp → Prop} (Iv : Nat → List V → Hp → Prop) (h0 : Iv 0 [] H0)
    (hgo : ∀ i ys H, i < n → Iv i ys H → J.go i H ∧ ys.length < sizeLine ∧ ∀ x H', J.yld i H x H' → g x (List.replicate k none ++ σ) H' fun σ2 H2 => tt σ2 H2 fun b H3 =>
      if b = true then te σ2 H3 fun y H4 => ∃ m', m' < n - i ∧ Wc n Iv (i + 1) m' (ys ++ [y]) H4 else ∃ m', m' < n - i ∧ Wc n Iv (i + 1) m' ys H3)
    (hstop : ∀ ys H, Iv n ys H → J.stop n H ∧ ∀ p, H p = none → Q p ys H) :
    ∃ W : Nat → Nat → List V → Hp → Prop, (∃ m, W 0 m [] H0) ∧ ∀ i m ys H, W i m ys H →
      (J.stop i H ∧ ∀ p, H p = none → Q p ys H) ∨
      (J.go i H ∧ ys.length < sizeLine ∧ ∀ x H', J.yld i H x H' → g x (List.replicate k none ++ σ) H' fun σ2 H2 => tt σ2 H2 fun b H3 =>
        if b = true then te σ2 H3 fun y H4 => ∃ m', m' < m ∧ W (i + 1) m' (ys ++ [y]) H4 else ∃ m', m' < m ∧ W (i + 1) m' ys H3) := by
  refine ⟨Wc n Iv, ⟨n, Nat.zero_le _, rfl, h0⟩, fun i m ys H ⟨hi, hm, h⟩ => ?_⟩
  subst hm
  by_cases e : i = n
  · subst e; exact .inl (hstop ys H h)
  · exact .inr (hgo i ys H (by omega) h)
theorem take_one {α : Type} {x : List α} {i : Nat} (hi : i < x.length) : x.take (i + 1) = x.take i ++ [x[i]] := by rw [List.take_add_one, List.getElem?_eq_getElem hi]; rfl
theorem getD_at {α : Type} {x : List α} {i : Nat} (hi : i < x.length) (d : α) : x.getD i d = x[i] := by simp [List.getD, List.getElem?_eq_getElem hi]
theorem yesT {σ : St} {H : Hp} {A B : Hp → Prop} (h : A H) : tYes σ H fun b H3 => if b = true then A H3 else B H3 := by show (if true = true then A H else B H); rw [if_pos rfl]; exact h
theorem turn1 {i : Nat} {v : V} {σ : St} {H : Hp} {A B : St → Hp → Prop} (h : A (σ.set i (some v)) H) : gName i v σ H fun σ2 H2 => tYes σ2 H2 fun b H3 => if b = true then A σ2 H3 else B σ2 H3 := by
  show (if true = true then A (σ.set i (some v)) H else B (σ.set i (some v)) H); rw [if_pos rfl]; exact h
theorem for_go {J : It} {n : Nat} {g : TG} {tb : TS} {D : Ends} {σ0 : St} {H0 : Hp} (Pv : Nat → St → Hp → Prop) (h0 : Pv 0 σ0 H0)
    (hgo : ∀ i σ H, i < n → Pv i σ H → J.go i H ∧ ∀ x H', J.yld i H x H' → g x σ H' fun σ2 H2 => tb { D with nx := Pv (i + 1), ct := Pv (i + 1), bk := D.nx } σ2 H2)
    (hstop : ∀ σ H, Pv n σ H → J.stop n H ∧ D.nx σ H) :
    ∃ W : Nat → Nat → St → Hp → Prop, (∃ m, W 0 m σ0 H0) ∧ ∀ i m σ H, W i m σ H →
      (J.stop i H ∧ D.nx σ H) ∨ (J.go i H ∧ ∃ N : St → Hp → Prop, (∀ σ' H', N σ' H' → ∃ m', m' < m ∧ W (i + 1) m' σ' H') ∧ ∀ x H', J.yld i H x H' → g x σ H' fun σ2 H2 => tb { D with nx := N, ct := N, bk := D.nx } σ2 H2) := by
  refine ⟨fun i m σ H => i ≤ n ∧ m = n - i ∧ Pv i σ H, ⟨n, Nat.zero_le _, rfl, h0⟩, fun i m σ H ⟨hi, hm, h⟩ => ?_⟩
  subst hm
  by_cases e : i = n
  · subst e; exact .inl (hstop σ H h)
  · obtain ⟨a, b⟩ := hgo i σ H (by omega) h
    exact .inr ⟨a, Pv (i + 1), fun σ' H' q => ⟨n - (i + 1), by omega, by omega, rfl, q⟩, b⟩
/-! ### a block's scope, checked -/
def chkScope (scope sc : Scope) (N : List Str) : Bool :=
  scope.kind == .function && scope.names.all (fun y => y.2 != .cell) && scope.names.all (fun x => x.2 != .local || scope.names.lookup x.1 == some .local) &&
    scope.names.all (fun y => y.2 != .free || (sc.names.lookup y.1 == some .cell || sc.names.lookup y.1 == some .free)) && N.all fun x => scope.names.lookup x != some .local
theorem scopeIn_of {X : Cx} {T : List Str} {scope : Scope} (sc : Scope) (N : List Str) (e1 : X.env.scope = sc) (e2 : X.N = N) (h : chkScope scope sc N = true) : ScopeIn X T scope := by
  unfold chkScope at h
  simp only [Bool.and_eq_true, List.all_eq_true, Bool.or_eq_true, bne_iff_ne, beq_iff_eq, ne_eq] at h
  obtain ⟨⟨⟨⟨h1, h2⟩, h3⟩, h4⟩, h5⟩ := h
  refine ⟨h1, fun y hy => h2 y hy, fun x hx q => ?_, fun n hn => ?_, fun x hx => ?_⟩
  · rcases h3 x hx with z | z
    · exact absurd q z
    · exact z
  · unfold Env.kindOf
    rw [e1]
    rcases h4 (n, .free) hn with z | z
    · exact absurd rfl z
    · exact z
  · rw [e2] at hx; exact h5 x hx
theorem tups_lst {H : Hp} {a : Addr} {xs : List V} {o : HO} (h : H a = some (.lst xs)) : Tups H (upd H a o) := fun b ys e => by rw [upd_ne (ne_of e h (by intro z; cases z))]; exact e
theorem same_old {H0 H : Hp} {a : Addr} {o : HO} (h : H0 a = none) (sm : Same H0 H) : Same H0 (upd H a o) := fun b u e => by rw [upd_ne (ne_of_none e h)]; exact sm b u e
theorem Tups.rep {H H' : Hp} (h : Tups H H') {p : PV} {v : V} (r : Rep H p v) : Rep H' p v := Rep.mono h p v r
theorem Tups.reps {H H' : Hp} (h : Tups H H') {p : List PV} {v : List V} (r : Reps H p v) : Reps H' p v := Reps.mono h p v r
theorem Tups.sqt {K : PySem.W.Frag} {H : Hp} {H' : Hp} (h : Tups H H') {a : Addr} {xs : List V} (r : H a = some (.tup xs)) : SqT K H' a xs := SqT.of (h _ _ r)
theorem reps_snoc {H : Hp} : ∀ {ps : List PV} {p : PV} {vs : List V}, Reps H (ps ++ [p]) vs → ∃ dl y, vs = dl ++ [y] ∧ Reps H ps dl ∧ Rep H p y
  | [], p, vs, r => by
    simp only [List.nil_append, Reps] at r
    obtain ⟨v, t, rfl, h1, rfl⟩ := r
    exact ⟨[], v, rfl, Reps.nil, h1⟩
  | q :: ps, p, vs, r => by
    simp only [List.cons_append, Reps] at r
    obtain ⟨v, t, rfl, h1, h2⟩ := r
    obtain ⟨dl, y, rfl, h3, h4⟩ := reps_snoc h2
    exact ⟨v :: dl, y, rfl, Reps.cons h1 h3, h4⟩
end L2

-- R8
set_option linter.all false
set_option maxRecDepth 100000
set_option maxHeartbeats 0
/-! methods of texts, each once -/
namespace L2
open PySem PySem.Spec PyProof.Rows K2
section
variable {X : Cx} {e o : Expr} {te to : TE} {x : Str} {j : Nat} {p apos cpos : Pos}
theorem pe_join (he : PE X e te) (hline : (apos.endLine == cpos.line) = true := by rfl) (hs : starEach [e] X.env = [(false, eval e X.env)] := by rfl) : PE X (.Call (.Attribute (.Constant (.str x) j p) "join" apos) [e] [] cpos)
    (tBM X.K "str" (rJoin X.K) (tC (.str x)) (tCons te tNil)) :=
  pe_bm PySem.F.plainAttrs_str PySem.F.slot_str_join PySem.F.type_str_join mt_join pe_str (pa_cons he pa_nil hs) (hline := hline) (hs := hs)
    (hfew := by rw [hs]; rfl)
theorem pe_split1 (ho : PE X o to) (he : PE X e te) (hbase : attributeBase o "split" X.env (eval o X.env) = eval o X.env := by rfl) (hline : (apos.endLine == cpos.line) = true := by rfl) (hs : starEach [e] X.env = [(false, eval e X.env)] := by rfl) : PE X (.Call (.Attribute o "split" apos) [e] [] cpos)
    (tBM X.K "str" rSplit to (tCons te tNil)) :=
  pe_bm PySem.F.plainAttrs_str PySem.F.slot_str_split PySem.F.type_str_split mt_split ho (pa_cons he pa_nil hs) (hbase := hbase) (hline := hline) (hs := hs) (hfew := by rw [hs]; rfl)
theorem pe_split0 (ho : PE X o to) (hbase : attributeBase o "split" X.env (eval o X.env) = eval o X.env := by rfl) (hline : (apos.endLine == cpos.line) = true := by rfl) : PE X (.Call (.Attribute o "split" apos) [] [] cpos) (tBM0 X.K "str" rWords to) :=
  pe_bm0 PySem.F.plainAttrs_str PySem.F.slot_str_split PySem.F.type_str_split mt_words ho (hbase := hbase) (hline := hline)
theorem pe_starts (ho : PE X o to) (he : PE X e te) (hbase : attributeBase o "startswith" X.env (eval o X.env) = eval o X.env := by rfl) (hline : (apos.endLine == cpos.line) = true := by rfl) (hs : starEach [e] X.env = [(false, eval e X.env)] := by rfl) : PE X (.Call (.Attribute o "startswith" apos) [e] [] cpos)
    (tBM X.K "str" (fun x vs H Q => ∃ i j, x = .str i ∧ vs = [.str j] ∧ Q (.bl (Txt.startswith i j)) H) to (tCons te tNil)) :=
  pe_bm PySem.F.plainAttrs_str PySem.F.slot_str_startswith PySem.F.type_str_startswith mt_starts ho (pa_cons he pa_nil hs) (hbase := hbase) (hline := hline) (hs := hs) (hfew := by rw [hs]; rfl)
theorem pe_index (ho : PE X o to) (he : PE X e te) (hbase : attributeBase o "index" X.env (eval o X.env) = eval o X.env := by rfl) (hline : (apos.endLine == cpos.line) = true := by rfl) (hs : starEach [e] X.env = [(false, eval e X.env)] := by rfl) : PE X (.Call (.Attribute o "index" apos) [e] [] cpos)
    (tBM X.K "list" rIndex to (tCons te tNil)) :=
  pe_bm PySem.F.plainAttrs_list PySem.F.slot_list_index PySem.F.type_list_index mt_index ho (pa_cons he pa_nil hs) (hbase := hbase) (hline := hline) (hs := hs) (hfew := by rw [hs]; rfl)
theorem pe_count (ho : PE X o to) (he : PE X e te) (hbase : attributeBase o "count" X.env (eval o X.env) = eval o X.env := by rfl) (hline : (apos.endLine == cpos.line) = true := by rfl) (hs : starEach [e] X.env = [(false, eval e X.env)] := by rfl) : PE X (.Call (.Attribute o "count" apos) [e] [] cpos)
    (tBM X.K "list" rCount to (tCons te tNil)) :=
  pe_bm PySem.F.plainAttrs_list PySem.F.slot_list_count PySem.F.type_list_count mt_count ho (pa_cons he pa_nil hs) (hbase := hbase) (hline := hline) (hs := hs) (hfew := by rw [hs]; rfl)
theorem pe_append (ho : PE X o to) (he : PE X e te) (hbase : attributeBase o "append" X.env (eval o X.env) = eval o X.env := by rfl) (hline : (apos.endLine == cpos.line) = true := by rfl) (hs : starEach [e] X.env = [(false, eval e X.env)] := by rfl) : PE X (.Call (.Attribute o "append" apos) [e] [] cpos)
    (tBM X.K "list" rAppend to (tCons te tNil)) :=
  pe_bm PySem.F.plainAttrs_list PySem.F.slot_list_append PySem.F.type_list_append mt_append ho (pa_cons he pa_nil hs) (hbase := hbase) (hline := hline) (hs := hs) (hfew := by rw [hs]; rfl)
theorem pe_pop (ho : PE X o to) (hbase : attributeBase o "pop" X.env (eval o X.env) = eval o X.env := by rfl) (hline : (apos.endLine == cpos.line) = true := by rfl) : PE X (.Call (.Attribute o "pop" apos) [] [] cpos) (tBM0 X.K "list" rPop to) :=
  pe_bm0 PySem.F.plainAttrs_list PySem.F.slot_list_pop PySem.F.type_list_pop mt_pop ho (hbase := hbase) (hline := hline)
end
/-- a loop within a body that may raise -/
theorem passOwnW {X : Cx} {E : XK} {L : Addr} (ok : (X.wish (FX X E)).Ok) (hs : X.stack = X.env :: X.outer) (hf : X.env.frame = some L) :
    PassesOwn (model (X.wish (FX X E)).prog (X.wish (FX X E)).w) (X.wish (FX X E)).A (X.wish (FX X E)).env (X.wish (FX X E)).xe := passOwn (X := X) ok.unwish hs hf
end L2

-- R9
set_option linter.all false
set_option maxRecDepth 100000
set_option maxHeartbeats 0
/-! signs of a text set apart, with the tokens followed -/
namespace L2
open PySem PySem.Spec PyProof.Rows K2
section
variable {X : Cx} {pins : List (Addr × Obj)} {σ : St} {H : Hp} {s : Shared}
/-- a followed name is stored, the state told -/
theorem Inv.told {i : Nat} {x : Str} {v : V} {u : Value} {m : Str → Option Value} {h' : Heap} {t' : Nat} (I : Inv X pins σ H s) (hN : X.N.Nodup) (hi : X.N[i]? = some x) (hk : X.env.scope.names.lookup x = some .local) (r : RelV v u)
    (hl : ∀ (i : Nat) (x : Str) (v : V), X.N[i]? = some x → σ[i]? = some (some v) → Vis X.env.scope x → ∃ u, RelV v u ∧ Look X.env s.heap m x u)
    (hm : s.heap.Ns X.env.locals m) (hn' : h'.Ns X.env.locals (fun y => if y = x then some u else m y)) (hs : Heap.SameBut X.env.locals s.heap h') : Inv X pins (σ.set i (some v)) H { s with heap := h', toks := t' } := by
  have ne : ∀ b o, X.s₀.heap.get? b = some o → b ≠ X.env.locals := fun b o e => Nat.ne_of_lt (Nat.lt_of_lt_of_le (Heap.lt_size e) I.ok.above)
  have hiσ : i < σ.length := by rw [I.len]; exact (List.getElem?_eq_some_iff.mp hi).1
  refine ⟨I.ok, I.os, I.bare, ⟨fun b o e z hb hx => (hs.2 b (ne b o e)).trans (I.base.keep b o e z hb hx), fun b o e z hb hx => (I.base.slot b o e z hb hx).imp fun sl q => (hs.2 b (ne b o e)).trans q, I.base.free, fun b o e hx => (I.base.there b o e hx).imp fun o' q => (hs.2 b (ne b o e)).trans q, I.base.tups, I.base.frzs, I.base.tbls⟩,
    ⟨_, hn', fun j y w h1 h2 h3 => ?_⟩, fun x c e => ?_, I.free, I.freeC, fun p hp => ?_, fun b o e => ?_, by rw [List.length_set]; exact I.len⟩
  · by_cases hj : j = i
    · subst hj
      rw [hi] at h1; cases h1
      rw [List.getElem?_set_self hiσ] at h2; cases h2
      exact ⟨u, r, .inl ⟨hk, by simp⟩⟩
    · rw [List.getElem?_set_ne (Ne.symm hj)] at h2
      obtain ⟨u', r', q⟩ := hl j y w h1 h2 h3
      refine ⟨u', r', ?_⟩
      rcases q with ⟨k, q⟩ | ⟨k, c, q, z⟩
      · have : y ≠ x := fun z => hj (nodup_ix hN h1 (z ▸ hi))
        exact .inl ⟨k, by simp [this, q]⟩
      · exact .inr ⟨k, c, q, z.sameBut hs (I.cne y c q)⟩
  · obtain ⟨w', z⟩ := I.cell x c e
    exact ⟨w', z.sameBut hs (I.cne x c e)⟩
  · obtain ⟨e, z, ne, nf, d⟩ := I.pin p hp
    exact ⟨(hs.2 p.1 ne).trans e, z, ne, nf, d⟩
  · refine (I.hok b o e).stay (fun c w' hc q => (hs.2 c ?_).trans q) (fun _ q => q) fun _ _ q => q
    rintro rfl
    rcases hc with rfl | hc
    · rw [I.free] at e; cases e
    · rw [I.free] at hc; cases hc
end
def rp (c : Nat) (x : T) : T := x.flatMap fun k => if k = c then [32, c, 32] else [k]
theorem rp_len (c : Nat) : ∀ x : T, (rp c x).length ≤ 3 * x.length
  | [] => by simp [rp]
  | a :: r => by
    have := rp_len c r
    have h1 : (if a = c then [32, c, 32] else [a]).length ≤ 3 := by split <;> simp
    unfold rp at this ⊢
    rw [List.flatMap_cons, List.length_append, List.length_cons]
    omega
def rps (x : T) : Nat → T
  | 0 => x
  | 1 => rp 123 x
  | 2 => rp 125 (rp 123 x)
  | _ => rp 59 (rp 125 (rp 123 x))
theorem rps_three (x : T) : rps x 3 = ex x := ex_three x
theorem rps_len (x : T) : ∀ i, i < 3 → (rps x i).length ≤ 9 * x.length
  | 0, _ => by show x.length ≤ _; omega
  | 1, _ => by have := rp_len 123 x; show (rp 123 x).length ≤ _; omega
  | 2, _ => by have := rp_len 123 x; have := rp_len 125 (rp 123 x); show (rp 125 (rp 123 x)).length ≤ _; omega
  | n + 3, h => by omega
theorem rps_step (x : T) : ∀ i, i < 3 → rps x (i + 1) = rp (([123, 125, 59] : T).getD i 0) (rps x i)
  | 0, _ => rfl
  | 1, _ => rfl
  | 2, _ => rfl
  | n + 3, h => by omega
theorem sSigns : ("{};" : Str) = S [123, 125, 59] := by decide +kernel
theorem sBlank : (" " : Str) = S [32] := by decide +kernel
theorem repl_S (t : T) (c : Nat) : Txt.replace (S t) (S [c]) (S [32, c, 32]) = S (rp c t) := txt_replace t [32, c, 32] c
section
variable {X : Cx}
/-- the call, tokens and all -/
theorem repl_call {A : Around} {E : Value → Shared → Prop} {Q : Value → Shared → Prop} {s : Shared} {t : T} {c : Nat} {tk u v : Tok} (hu : u ≠ 0) (huv : @LT.lt Nat _ u v) (ht : t.length ≤ 900000) (h1 : 1 ≤ s.toks) (h : ∀ t' k, 1 ≤ k → Q (.str (S (rp c t)) t') { s with toks := k }) :
    wpAny (model X.prog X.w) A (call (.builtin "str.replace") [.str (S t) tk, .str (S [c]) u, .str (S [32, c, 32]) v]) Q E s := by
  have hyz : (S [c] == S [32, c, 32]) = false := by
    refine beq_false_of_ne fun z => ?_
    have := S_inj z
    injection this with _ h2
    cases h2
  have hb : (S t).length + ((S t).length + 1) * (S [32, c, 32]).length ≤ 16777216 := by
    rw [len_S, len_S]; simp; omega
  have hl : Builtin.Str.tooLong ((S t).length + (Builtin.Str.occurrences (S t) (S [c]) 0 (S t).length ((S t).length + 1)).length * (S [32, c, 32]).length) = false := by
    have h2 := StrLaws.occ_length_le (S t) (S [c]) 0 (S t).length ((S t).length + 1)
    have h3 := Nat.mul_le_mul_right (S [32, c, 32]).length h2
    unfold Builtin.Str.tooLong sizeLine
    exact decide_eq_false (by omega)
  have hv : v ≠ 0 := fun z => by subst z; exact Nat.not_lt_zero _ huv
  refine call_gives PySem.F.slot_str_replace (typeIs_str _ _ _) PySem.F.entry_str_replace (PySem.F.args_str_replace_3 _ _ _) (gives_str_replace (S t) (S [c]) (S [32, c, 32]) tk u v fun _ => ⟨by simp [hu, hv], beq_false_of_ne fun z => by subst z; exact Nat.lt_irrefl _ huv, hyz, hl⟩) ?_
  have hr := repl_S t c
  unfold Txt.replace at hr
  split
  · rename_i e
    rw [if_pos e] at hr
    rw [hr]
    exact h _ _ h1
  · rename_i e
    rw [if_neg e] at hr
    rw [hr]
    refine ⟨?_, h _ _ (by omega)⟩
    rw [len_S, sizeLine_eq]
    have := rp_len c t
    omega
theorem add_ne {A : Around} {E : Value → Shared → Prop} {Q : Value → Shared → Prop} {s : Shared} {x y : T} {x' y' : Str} {t u : Tok} (ex : x' = S x) (hx : x ≠ []) (hy : y ≠ []) (hz : x.length + y.length ≤ 1000) (h : Q (.str (S (x ++ y)) s.toks) { s with toks := s.toks + 1 }) (ey : y' = S y) :
    wpAny (model X.prog X.w) A (binaryOp .Add (.str x' t) (.str y' u)) Q E s := by
  subst ex ey
  refine PySem.P.add_str ?_
  have e1 : ((S x).length == 0) = false := by rw [len_S]; cases x with | nil => exact absurd rfl hx | cons => simp
  have e2 : ((S y).length == 0) = false := by rw [len_S]; cases y with | nil => exact absurd rfl hy | cons => simp
  rw [e1, e2]
  simp only [Bool.false_eq_true, if_false]
  rw [S_append]
  refine ⟨?_, h⟩
  rw [len_S, List.length_append, sizeLine_eq]; omega
def tRepl : TS := fun D σ H => ∃ x : T, σ[0]? = some (some (.str (S x))) ∧ x.length ≤ 100000 ∧ D.nx (σ.set 0 (some (.str (S (ex x))))) H
theorem ps_repl {ps p1 p2 p3 p4 p5 p6 p7 p8 p9 p10 apos cpos pos : Pos} {j0 j1 j2 : Nat} (hp : PassesOwn (model X.prog X.w) X.A X.env X.xe) (hc : X.calm = true) (hN : X.N = [("line" : Str)]) (hl : X.env.scope.names.lookup ("line" : Str) = some .local) (hs : X.env.scope.names.lookup ("sign" : Str) = some .local)
    (hline : (apos.endLine == cpos.line) = true := by rfl) :
    PS X (.For (.Name "sign" ps) (.Constant (.str "{};") j0 p1) [.Assign [.Name "line" p2] (.Call (.Attribute (.Name "line" p3) "replace" apos) [.Name "sign" p4, .BinOp (.BinOp (.Constant (.str " ") j1 p5) .Add (.Name "sign" p6) p7) .Add (.Constant (.str " ") j2 p8) p9] [] cpos) p10] [] pos) tRepl := by
  intro pins s σ H D I h
  obtain ⟨x, e0, hx, q⟩ := h
  have hcls : (X.env.scope.kind == .class || (X.env.scope.kind == .module && X.env.locals != X.env.globals)) = false := by rw [I.ok.kind]; rfl
  have hd : X.N.Nodup := by rw [hN]; decide +kernel
  have hi0 : X.N[0]? = some ("line" : Str) := by rw [hN]; rfl
  have hnS : ("sign" : Str) ∉ X.N := by rw [hN]; decide +kernel
  refine wpAny_For (Calls.Constant_str (wpAny_pyIter_ascii (by decide +kernel) ?_)) (fun _ => rfl)
  have fp : FpOk X pins H s.heap.objs.size := I.fpOk (Nat.le_refl _) I.fresh
  have I1 : Inv X pins σ H { s with heap := s.heap.push { cls := .type "str_ascii_iterator", data := .fields #[.str "{};" s.toks, .int 0 0] }, toks := s.toks + 1 } := I.kept fun b o e => Heap.get?_push_of_some _ e
  obtain ⟨fp1, fp2, fp3, fp4, fp5, fp6⟩ := fp
  refine codeAny_forLoop_any (fun n s' => ∃ i, n = 3 - i ∧ i ≤ 3 ∧ Inv X pins (σ.set 0 (some (.str (S (rps x i))))) H s' ∧ s'.heap.IsStrIter s.heap.objs.size "str_ascii_iterator" "{};" s.toks i ∧ 1 ≤ s'.toks) ?_ 3 ⟨0, rfl, by decide, ?_, ⟨_, Heap.get?_push_size _ rfl, rfl, rfl⟩, Nat.le_add_left _ _⟩
  rotate_left
  · refine I1.weak (by simp) fun j v e => ?_
    by_cases hj : j = 0
    · subst hj
      have h0 : 0 < σ.length := by rw [I.len, hN]; decide
      rw [List.getElem?_set_self h0] at e
      rw [e0]; exact e
    · rw [List.getElem?_set_ne (Ne.symm hj)] at e; exact e
  rintro n s1 ⟨i, rfl, hi, I2, it2, tk2⟩
  have hcps : ∀ i : Nat, ("{};" : Str).cps[i]? = ([123, 125, 59] : T)[i]? := fun i => by rw [sSigns]; simp [S]
  by_cases h3 : i = 3
  · subst h3
    refine wpAny_passesOwn hp (wpAny_pyNext_ascii_end (I.ok.hd hc) it2 (by rw [hcps]; rfl) fun h' hx' => ?_)
    refine wpAny_execs_nil ⟨_, H, I2.turned (t' := s1.toks) (fun b o hb e => hx' b o hb e) fp1 fp2 fp4 fp5 fp6, ?_⟩
    rw [rps_three]; exact q
  · have hlt : i < 3 := by omega
    obtain ⟨c, hcc⟩ : ∃ c, ([123, 125, 59] : T)[i]? = some c := ⟨_, List.getElem?_eq_getElem (by simpa using hlt)⟩
    have hcd : ([123, 125, 59] : T).getD i 0 = c := by simp [List.getD, hcc]
    refine wpAny_passesOwn hp (wpAny_pyNext_ascii_item it2 (by rw [hcps]; exact hcc) fun h2 it3 sb2 => ?_)
    have I3 : Inv X pins (σ.set 0 (some (.str (S (rps x i))))) H { s1 with heap := h2, toks := s1.toks + 1 } := I2.turned (fun b o hb e => sb2.extBut b o hb e) fp1 fp2 fp4 fp5 fp6
    obtain ⟨oi, hoi, hci, hdi⟩ := id it3
    refine wpAny_passesOwn hp (go_of hoi hci hdi (by decide) ?_)
    obtain ⟨m, hm3, hl3⟩ := id I3.loc
    refine wpAny_passesOwn hp (wpAny_assign_Name (wpAny_storeName_local hs hm3 (fun h4 hn4 hs4 => ?_) hcls))
    have I4 := I3.untold (v := some (.str ⟨#[c]⟩ s1.toks)) (t' := s1.toks + 1 + 1) hnS hl3 hm3 hn4 hs4
    have hLi : s.heap.objs.size ≠ X.env.locals := fp2
    obtain ⟨ul, rl, ll⟩ := hl3 0 "line" (.str (S (rps x i))) hi0 (by rw [List.getElem?_set_self (by rw [I.len, hN]; decide)]) (.inl hl)
    obtain ⟨tkl, rfl⟩ := rl
    have hml : m "line" = some (.str (S (rps x i)) tkl) := by
      rcases ll with ⟨_, hm⟩ | ⟨hk, _⟩
      · exact hm
      · rcases hk with hk | hk <;> (rw [show X.env.kindOf "line" = some .local from hl] at hk; cases hk)
    have eS : ∀ (s5 : Shared) (Q' : Value → Shared → Prop) (E' : Value → Shared → Prop) (pz : Pos), s5.heap = h4 → Q' (.str (S [c]) s1.toks) s5 → wpAny (model X.prog X.w) X.A (eval (.Name "sign" pz) X.env) Q' E' s5 := fun s5 Q' E' pz e z =>
      wpAny_Name (wpAny_loadName_local I.ok.kind hs (by rw [e]; exact hn4) (if_pos rfl) z) (by decide)
    refine wpAny_passesOwn hp (wpAny_execs_cons (wpAny_Assign_Name (wpAny_Call_method_late rfl rfl hline rfl ?_) rfl))
    refine wpAny_Name (wpAny_loadName_local (v := .str (S (rps x i)) tkl) I.ok.kind hl hn4 ((if_neg (by decide +kernel)).trans hml) ?_) (by decide)
    refine ⟨"str", "str.replace", PySem.F.plainAttrs_str, PySem.F.slot_str_replace, PySem.F.type_str_replace, typeIs_str _ _ _, (fun a z => by cases z), ?_⟩
    refine Calls.callWith_builtin rfl (Calls.evalArgs_plain (spliced_more (eS _ _ _ _ rfl (spliced_more (wpAny_BinOp (wpAny_BinOp (Calls.Constant_str (eS _ _ _ _ rfl (add_ne (x := [32]) (y := [c]) sBlank (by simp) (by simp) (by simp) (Calls.Constant_str (add_ne (x := [32] ++ [c]) (y := [32]) rfl (by simp) (by simp) (by simp) (spliced_none ?_) sBlank)) rfl)))))))))
    have a1 : (s1.toks : Nat) ≠ 0 := Nat.ne_of_gt tk2
    have a2 : @LT.lt Nat _ s1.toks (s1.toks + 1 + 1 + 1 + 1 + 1) := by omega
    have a3 : 1 ≤ (s1.toks + 1 + 1 + 1 + 1 + 1 + 1 : Nat) := by omega
    have a4 : (rps x i).length ≤ 900000 := by have := rps_len x i hlt; omega
    refine repl_call (X := X) a1 a2 a4 a3 fun t' k hk => ?_
    refine wpAny_storeName_local hl hn4 (fun h7 hn7 hs7 => wpAny_execs_nil ?_) hcls
    refine ⟨3 - (i + 1), by omega, i + 1, rfl, by omega, ?_, ?_, by show 1 ≤ k + 1; omega⟩
    · have h0 : 0 < σ.length := by rw [I.len, hN]; decide
      have := I4.told (t' := k + 1) (i := 0) (x := "line") (v := .str (S (rp c (rps x i)))) (u := .str (S (rp c (rps x i))) t') hd hi0 hl ⟨_, rfl⟩ (fun j y w h1 h2 h3 => ?_) hn4 hn7 hs7
      · rw [List.set_set] at this
        rw [rps_step x i hlt, hcd]; exact this
      · rw [hN] at h1
        cases j with
        | succ j => simp at h1
        | zero =>
          simp at h1
          subst h1
          rw [List.getElem?_set_self h0] at h2
          cases h2
          exact ⟨_, ⟨tkl, rfl⟩, .inl ⟨hl, (if_neg (by decide +kernel)).trans hml⟩⟩
    · exact (it3.extBut hs4.extBut hLi).extBut hs7.extBut hLi
end
end L2

-- R10
set_option linter.all false
set_option maxRecDepth 100000
set_option maxHeartbeats 0
/-! t[:k] that is all of t; a block within a block -/
namespace L2
open PySem PySem.Spec PyProof.Rows
section
variable {prog : Program} {w : World} {A : Around} {E : Value → Shared → Prop} {s : Shared}
theorem tuple_all {t sl : Addr} {items : Array Value} {vl vu : Value} {lo hi : Option Int} {Q : Value → Shared → Prop} (ht : IsTup s.heap t items) (hs : s.heap.IsSliceOf sl vl vu .none) (pl : IsPart vl lo) (pu : IsPart vu hi)
    (h0 : HT.sIx items.size 0 lo = 0) (h1 : HT.sIx items.size items.size hi = items.size) (h : Q (.ref t) s) : wpAny (model prog w) A (getItem (.ref t) (.ref sl)) Q E s := by
  obtain ⟨os, hos, hcs, hds⟩ := id hs
  have tyS : s.TypeIs (.ref sl) "slice" := ⟨os, hos, hcs⟩
  unfold getItem
  try with_reducible refine wpAny_holding ?_
  first | refine wpAny_bind (wpAny_pure ?_) | skip
  refine wpAny_bind (wpAny_sequenceKey ht.typeIs (by decide) (wpAny_bind (wpAny_callSpecial?_slot (name := Str.ofString "__getitem__") ht.typeIs PyProof.Rows.slot_tuple_getitem (wpAny_call_entry PyProof.Rows.slot_tuple_getitem ht.typeIs entry_tuple_getitem ?_ (args_tuple_getitem _ _)))))
  show wpAny _ _ (Builtin.Tuple.tupleItemsOf (.ref t) >>= _) _ _ s
  refine wpAny_bind (tupleItemsOf_ ht (wpAny_bind (wpAny_typeOf tyS ?_))); rw [if_pos (by decide)]
  refine wpAny_bind (HT.sliceApplied_gen hs pl pu ?_)
  have yes : (((HT.sIx items.size 0 lo : Nat) : Int) == 0 && (1 : Int) == 1 && (HT.sIx items.size items.size hi - HT.sIx items.size 0 lo) == items.size) = true := by rw [h0, h1]; simp
  show wpAny _ _ (if (((HT.sIx items.size 0 lo : Nat) : Int) == 0 && (1 : Int) == 1 && (HT.sIx items.size items.size hi - HT.sIx items.size 0 lo) == items.size) = true then _ else _) _ _ s
  rw [if_pos yes]
  unfold Builtin.Tuple.tupleIsExact
  first
    | refine wpAny_bind (wpAny_bind (wpAny_typeOf ht.typeIs (wpAny_pure ?_)))
    | refine wpAny_bind (wpAny_bind (wpAny_bind (wpAny_typeOf ht.typeIs (wpAny_pure ?_))))
  rw [if_pos (by decide)]
  exact wpAny_bind (wpAny_rule (wpAny_pure ⟨_, rfl, wpAny_pure h⟩))
end
section
variable {X : Cx}
/-- t[lo:hi] of a tuple: all of it, or a part -/
def rSlTA (K : PySem.W.Frag) : V → Option Int → Option Int → Hp → VK → Prop := fun x lo hi H Q => ∃ a xs, x = .ref a ∧ SqT K H a xs ∧ (∀ b H', (b = a ∧ H' = H ∧ cutV xs lo hi = xs) ∨ (H b = none ∧ H' = upd H b (.tup (cutV xs lo hi))) → Q (.ref b) H')
theorem sl_tupA : SlR X (rSlTA X.K) := by
  intro pins s σ H x v vl vu lo hi sl Q I rx hs pl pu h
  obtain ⟨a, xs, rfl, hx, q⟩ := h
  by_cases hw : HT.sIx xs.length 0 lo = 0 ∧ HT.sIx xs.length xs.length hi = xs.length
  · cases rx
    obtain ⟨its, r, ht, hz⟩ := I.tuple hx
    have hlen : its.toArray.size = xs.length := by rw [List.size_toArray]; exact r.length.symm
    refine ⟨"tuple", _, PyProof.Rows.slot_tuple_getitem.lookup, ht.typeIs, tuple_all ht hs pl pu (by rw [hlen]; exact hw.1) (by rw [hlen]; exact hw.2) ⟨.ref a, H, I, rfl, q a H (.inl ⟨rfl, rfl, ?_⟩)⟩⟩
    unfold cutV
    rw [hw.1, hw.2]; simp
  · exact sl_tup pins s σ H (.ref a) v vl vu lo hi sl Q I rx hs pl pu ⟨a, xs, rfl, hx, hw, fun p hp => q p _ (.inr ⟨hp, rfl⟩)⟩
end
/-! the same rules, told of K alone (within a block) -/
section
variable {X : Cx} (K : PySem.W.Frag) (hK : X.K = K)
include hK
theorem ix_tupK : IxR X (rIxT K) := hK ▸ ix_tup
theorem sl_tupAK : SlR X (rSlTA K) := hK ▸ sl_tupA
theorem call_tupleK : CallR X (.type "tuple") (fun xs H Q => ∃ p ys, xs = [.ref p] ∧ ((SqL K H p ys ∧ ∀ l, H l = none → Q (.ref l) (upd H l (.tup ys))) ∨ (SqT K H p ys ∧ Q (.ref p) H))) := hK ▸ call_tuple_of
theorem pi_tupK {tg l : Expr} {tl : TE} (hl : PE X l tl) : PI X tg l (iTup K tl) := hK ▸ pi_tup hl
theorem pe_joinK {e : Expr} {te : TE} {x : Str} {j : Nat} {p apos cpos : Pos} (he : PE X e te) (hline : (apos.endLine == cpos.line) = true := by rfl) (hs : starEach [e] X.env = [(false, eval e X.env)] := by rfl) : PE X (.Call (.Attribute (.Constant (.str x) j p) "join" apos) [e] [] cpos)
    (tBM K "str" (rJoin K) (tC (.str x)) (tCons te tNil)) := hK ▸ pe_join he hline hs
end
/-- a block whose names are all its own or the module's -/
def chkScope0 (scope : Scope) (N : List Str) : Bool :=
  scope.kind == .function && scope.names.all (fun y => y.2 != .cell && y.2 != .free) && scope.names.all (fun x => x.2 != .local || scope.names.lookup x.1 == some .local) && N.all fun x => scope.names.lookup x != some .local
theorem scopeIn_own {X : Cx} {T : List Str} {scope : Scope} (N : List Str) (e2 : X.N = N) (h : chkScope0 scope N = true) : ScopeIn X T scope := by
  unfold chkScope0 at h
  simp only [Bool.and_eq_true, List.all_eq_true, Bool.or_eq_true, bne_iff_ne, beq_iff_eq, ne_eq] at h
  obtain ⟨⟨⟨h1, h2⟩, h3⟩, h5⟩ := h
  refine ⟨h1, fun y hy => (h2 y hy).1, fun x hx q => ?_, fun n hn => absurd rfl (h2 (n, .free) hn).2, fun x hx => ?_⟩
  · rcases h3 x hx with z | z
    · exact absurd q z
    · exact z
  · rw [e2] at hx; exact h5 x hx
end L2

-- R11
set_option linter.all false
set_option maxRecDepth 100000
/-! lists of pairs, compared; calls that do not raise here -/
namespace L2
open PySem PySem.Spec PyProof.Rows K2
section
variable {X : Cx}
theorem op_eqLR (hu : X.A.units + 100 < cLine) : OpR X (compareOp .Eq) (fun x y H Q => ∃ a b xs ys ps, x = .ref a ∧ y = .ref b ∧ SqL X.K H a xs ∧ SqL X.K H b ys ∧ dps ps ≤ 50 ∧ Reps H ps xs ∧ Reps H ps ys ∧ Q (.bl true) H) := by
  intro pins s σ H x y v u Q I rx ry h
  obtain ⟨a, b, xs, ys, ps, rfl, rfl, ha, hb, hd, r1, r2, q⟩ := h
  cases rx; cases ry
  obtain ⟨i1, v1, pl, _⟩ := I.list ha
  obtain ⟨i2, v2, pl2, _⟩ := I.list hb
  have l1 := v1.length
  have l2 := v2.length
  have l3 := r1.len
  have l4 := r2.len
  refine SeqAt.eq_listAt (e := fun _ => true) pl.isList pl2.isList (by simp only [List.size_toArray]; omega) (by omega) (fun j h1 h2 => ?_) ⟨.bl true, H, I, ?_, q⟩
  · simp only [List.size_toArray] at h1 h2
    exact eqReps I ps xs ys i1 i2 X.A.in1 (by rw [in1_units]; omega) r1 r2 v1 v2 j _ _ (by simp [List.getElem?_eq_getElem h1]) (by simp [List.getElem?_eq_getElem h2])
  · have e2 : ((List.range i1.toArray.size).all (fun _ => true)) = true := by simp
    rw [e2]; rfl
theorem pass1F {X : Cx} : Passes (CX1 X.prog X.w) X (fun _ _ _ => False) := fun _ _ _ _ _ _ _ h => by
  obtain ⟨_, _, _, _, _, _, _, z⟩ := h
  exact z.elim
end
mutual
theorem dp_wf : ∀ (d : Nat) (p : PV), Wf d p → dp p ≤ 2 * d
  | 0, p, h => h.elim
  | d + 1, .at _, h => h.elim
  | d + 1, .tup rs, h => by
    have := dps_wf d rs h
    simp only [dp]; omega
theorem dps_wf : ∀ (d : Nat) (rs : List PV), (∀ r ∈ rs, ∃ its, r = .tup its ∧ ∀ it ∈ its, (∃ a, it = .at a ∧ FineA a) ∨ Wf d it) → dps rs ≤ 2 * d + 1
  | d, [], _ => by simp [dps]
  | d, r :: rs, h => by
    have h1 := dps_wf d rs fun r hr => h r (.tail _ hr)
    obtain ⟨its, e, hits⟩ := h r (.head _)
    subst e
    have h2 := dpi_wf d its hits
    simp only [dps, dp]
    omega
theorem dpi_wf : ∀ (d : Nat) (its : List PV), (∀ it ∈ its, (∃ a, it = .at a ∧ FineA a) ∨ Wf d it) → dps its ≤ 2 * d
  | d, [], _ => by simp [dps]
  | d, it :: its, h => by
    have h1 := dpi_wf d its fun r hr => h r (.tail _ hr)
    have h2 : dp it ≤ 2 * d := by
      rcases h it (.head _) with ⟨a, e, _⟩ | w
      · rw [e]; simp [dp]
      · exact dp_wf d it w
    simp only [dps]
    omega
end
end L2
namespace L2
open PySem PySem.Spec PyProof.Rows
section
variable {X : Cx}
/-- a text in a list of things -/
theorem pa_str {x : Str} {j : Nat} {p : Pos} {es : List Expr} {t : TA} (h : PA X es t) : PA X (.Constant (.str x) j p :: es) (tCons (tC (.str x)) t) := pa_cons pe_str h rfl
/-- four of them: deep rows of pa_cons double the elaborator's time with each -/
theorem pa_str4 {x1 x2 x3 x4 : Str} {j1 j2 j3 j4 : Nat} {p1 p2 p3 p4 : Pos} {es : List Expr} {t : TA} (h : PA X es t) : PA X (.Constant (.str x1) j1 p1 :: .Constant (.str x2) j2 p2 :: .Constant (.str x3) j3 p3 :: .Constant (.str x4) j4 p4 :: es)
    (tCons (tC (.str x1)) (tCons (tC (.str x2)) (tCons (tC (.str x3)) (tCons (tC (.str x4)) t)))) := pa_str (pa_str (pa_str (pa_str h)))
end
end L2

-- D1
set_option linter.all false
set_option maxRecDepth 100000
/-! the defs of programs.py, first part -/
namespace W2
open PySem PySem.Spec PyProof.Rows K2 L2
def top (i : Nat) : Stmt := PySem.Challenge.pw_wildtakes_k02_whole_texts.main.body.getD i (.Pass ⟨0, 0, 0, 0⟩)
abbrev sWhole : Stmt := top 22
abbrev sMark : Stmt := top 23
abbrev sNumber : Stmt := top 24
abbrev sBox : Stmt := top 25
abbrev sThing : Stmt := top 26
abbrev sRows : Stmt := top 27
abbrev sAny : Stmt := top 29
abbrev sFits : Stmt := top 30
abbrev sRow : Stmt := top 31
abbrev sWithin : Stmt := top 32
abbrev sCount : Stmt := top 33
abbrev sProgram : Stmt := top 34
abbrev sCheck : Stmt := top 35
abbrev sWord : Stmt := top 36
abbrev sRText : Stmt := top 37
abbrev sPText : Stmt := top 38
abbrev sNText : Stmt := top 39
abbrev sNext : Stmt := top 40
abbrev sRWord : Stmt := top 41
abbrev sSplit : Stmt := top 42
abbrev sWith : Stmt := top 43
abbrev sLine : Stmt := top 44
abbrev sRead : Stmt := top 45
/-- the built-in names that no top row has taken; the top's plain names -/
structure Tx (mg : Str → Option Value) : Prop where
  isi : mg "isinstance" = none
  int : mg "int" = none
  bool : mg "bool" = none
  str : mg "str" = none
  len : mg "len" = none
  all : mg "all" = none
  tuple : mg "tuple" = none
  zip : mg "zip" = none
  enum : mg "enumerate" = none
  range : mg "range" = none
  list : mg "list" = none
  lke : mg "LookupError" = none
  letters : ∃ t, mg "LETTERS" = some (.str "abcdefghijklmnopqrstuvwxyz" t)
  digits : ∃ t, mg "DIGITS" = some (.str "0123456789" t)
  lbox : ∃ t, mg "LONGEST_BOX" = some (.int 3 t)
  hmark : ∃ t, mg "HIGHEST_MARK" = some (.int 9 t)
  hnum : ∃ t, mg "HIGHEST_NUMBER" = some (.int 1000000 t)
  mdig : ∃ t, mg "MOST_DIGITS" = some (.int 7 t)
  lhands : ∃ t, mg "LEAST_HANDS" = some (.int 2 t)
  mhands : ∃ t, mg "MOST_HANDS" = some (.int 5 t)
  mrows : ∃ t, mg "MOST_ROWS" = some (.int 40 t)
section
variable {P : Program} {w : World} {K : PySem.W.Frag} {mg : Str → Option Value} {base : Heap}
theorem k_same (t : String) : PySem.W.kitOne K (.type t) (.type t) = some true := by unfold PySem.W.kitOne; rw [if_pos (by simp)]
theorem k_int_bool : PySem.W.kitOne K (.type "int") (.type "bool") = some false := rfl
theorem k_tuple_int : PySem.W.kitOne K (.type "tuple") (.type "int") = some false := rfl
theorem k_str_int : PySem.W.kitOne K (.type "str") (.type "int") = some false := rfl
theorem k_none_int : PySem.W.kitOne K (.type "NoneType") (.type "int") = some false := rfl
theorem k_tuple_str : PySem.W.kitOne K (.type "tuple") (.type "str") = some false := rfl
theorem k_int_str : PySem.W.kitOne K (.type "int") (.type "str") = some false := rfl
theorem k_none_str : PySem.W.kitOne K (.type "NoneType") (.type "str") = some false := rfl
theorem k_list_str : PySem.W.kitOne K (.type "list") (.type "str") = some false := rfl
theorem k_int_tuple : PySem.W.kitOne K (.type "int") (.type "tuple") = some false := rfl
theorem k_str_tuple : PySem.W.kitOne K (.type "str") (.type "tuple") = some false := rfl
theorem k_none_tuple : PySem.W.kitOne K (.type "NoneType") (.type "tuple") = some false := rfl

/-! is_whole -/
def isWhole : PV → Bool
  | .at (.int _) => true
  | _ => false
def spP (f : PV → Bool) : Sp := fun vs H Q _ => ∃ p v, vs = [v] ∧ Rep H p v ∧ ∀ H', Same H H' → Q (.bl (f p)) H'
theorem spP_len {f : PV → Bool} (vs : List V) (H : Hp) (Q : VK) (E : XK) (h : spP f vs H Q E) : vs.length = 1 := by obtain ⟨p, v, rfl, _⟩ := h; rfl
theorem scWhole : FnScope ["thing"] ["thing"] (defScope sWhole) := ⟨rfl, rfl, rfl, by decide +kernel, rfl, by decide +kernel, by decide +kernel⟩
theorem ok_whole {f : Addr} {fd : FuncData} (F : Fun K "is_whole" "is_whole" sWhole f fd) (T : Tx mg) : FnOk P w K mg base CX0 1 f fd ["thing"] (spP isWhole) := by
  refine F.ok scWhole spP_len (fun cdv A outer s H vs Q E hr h => ?_)
  obtain ⟨p, v, rfl, rp, q⟩ := h
  refine ⟨_, pss_one (ps_ret (pe_and (pe_callB call_isi rfl T.isi boot_isinstance (pa_cons (pv 0) (pa_cons (pe_bltn rfl T.int boot_int (v := .ty "int") rfl) pa_nil)))
    (pe_one (pe_not (pe_callB call_isi rfl T.isi boot_isinstance (pa_cons (pv 0) (pa_cons (pe_bltn rfl T.bool boot_bool (v := .ty "bool") rfl) pa_nil))))))), ?_⟩
  obtain ⟨t, ty, c⟩ := rp.ty (K := K)
  have fin := q H (Same.refl H)
  rcases c with ⟨xs, rfl, rfl⟩ | ⟨i, rfl, rfl⟩ | ⟨x, rfl, rfl⟩ | ⟨rfl, rfl⟩
  · exact ⟨_, rfl, _, _, _, _, _, rfl, ty, fun u z => z, k_tuple_int, _, rfl, iteF fin⟩
  · exact ⟨_, rfl, _, _, _, _, _, rfl, ty, fun u z => z, k_same _, _, rfl, iteT ⟨_, rfl, _, _, _, _, _, rfl, ty, fun u z => z, k_int_bool, _, rfl, fin⟩⟩
  · exact ⟨_, rfl, _, _, _, _, _, rfl, ty, fun u z => z, k_str_int, _, rfl, iteF fin⟩
  · exact ⟨_, rfl, _, _, _, _, _, rfl, ty, fun u z => z, k_none_int, _, rfl, iteF fin⟩

/-! is_mark, is_number -/
abbrev HasP (P : Program) (w : World) (K : PySem.W.Frag) (mg : Str → Option Value) (base : Heap) (k : Nat) (x : Str) (f : PV → Bool) : Prop := Has P w K mg base CX0 k x ["thing"] (spP f)
theorem scMark : FnScope ["thing"] ["thing"] (defScope sMark) := ⟨rfl, rfl, rfl, by decide +kernel, rfl, by decide +kernel, by decide +kernel⟩
theorem ok_mark {f : Addr} {fd : FuncData} (F : Fun K "is_mark" "is_mark" sMark f fd) (T : Tx mg) (hw : HasP P w K mg base 1 "is_whole" isWhole) : FnOk P w K mg base CX0 2 f fd ["thing"] (spP isMark) := by
  refine F.ok scMark spP_len (fun cdv A outer s H vs Q E hr h => ?_)
  obtain ⟨p, v, rfl, rp, q⟩ := h
  obtain ⟨t9, e9⟩ := T.hmark
  refine ⟨_, pss_one (ps_ret (pe_and (pe_callH hw hr rfl pass0 (pa_cons (pv 0) pa_nil)) (pe_one (pe_chain op_le op_le pe_int (pv 0) (pe_glob rfl e9 (v := .int 9) ⟨_, rfl⟩))))), ?_⟩
  refine ⟨_, rfl, p, v, rfl, rp, fun H' sm => ⟨_, rfl, ?_⟩⟩
  have fin := q H' sm
  cases p with
  | tup ps => exact iteF fin
  | «at» a =>
    cases a with
    | non => exact iteF fin
    | str x => exact iteF fin
    | int i =>
      cases (show v = .int i from rp)
      refine iteT ⟨_, rfl, _, _, rfl, rfl, _, rfl, ite2 (fun c => ⟨_, _, rfl, rfl, ?_⟩) (fun c => ?_)⟩
      · have e : isMark (.at (.int i)) = decide (i ≤ 9) := by show (decide (0 ≤ i) && decide (i ≤ 9)) = _; rw [c]; rfl
        rw [e] at fin; exact fin
      · have e : isMark (.at (.int i)) = false := by show (decide (0 ≤ i) && decide (i ≤ 9)) = _; rw [Bool.eq_false_iff.mpr c]; rfl
        rw [e] at fin; exact fin
theorem scNumber : FnScope ["thing"] ["thing"] (defScope sNumber) := ⟨rfl, rfl, rfl, by decide +kernel, rfl, by decide +kernel, by decide +kernel⟩
theorem ok_number {f : Addr} {fd : FuncData} (F : Fun K "is_number" "is_number" sNumber f fd) (T : Tx mg) (hw : HasP P w K mg base 1 "is_whole" isWhole) : FnOk P w K mg base CX0 2 f fd ["thing"] (spP isNumber) := by
  refine F.ok scNumber spP_len (fun cdv A outer s H vs Q E hr h => ?_)
  obtain ⟨p, v, rfl, rp, q⟩ := h
  obtain ⟨t9, e9⟩ := T.hnum
  refine ⟨_, pss_one (ps_ret (pe_and (pe_callH hw hr rfl pass0 (pa_cons (pv 0) pa_nil)) (pe_one (pe_chain op_le op_le (pe_un un_neg (pe_glob rfl e9 (v := .int 1000000) ⟨_, rfl⟩)) (pv 0) (pe_glob rfl e9 (v := .int 1000000) ⟨_, rfl⟩))))), ?_⟩
  refine ⟨_, rfl, p, v, rfl, rp, fun H' sm => ⟨_, rfl, ?_⟩⟩
  have fin := q H' sm
  cases p with
  | tup ps => exact iteF fin
  | «at» a =>
    cases a with
    | non => exact iteF fin
    | str x => exact iteF fin
    | int i =>
      cases (show v = .int i from rp)
      refine iteT ⟨_, rfl, _, rfl, _, _, rfl, rfl, _, rfl, ite2 (fun c => ⟨_, _, rfl, rfl, ?_⟩) (fun c => ?_)⟩
      · have e : isNumber (.at (.int i)) = decide (i ≤ 1000000) := by show (decide (-1000000 ≤ i) && decide (i ≤ 1000000)) = _; rw [show decide (-1000000 ≤ i) = true from c]; rfl
        rw [e] at fin; exact fin
      · have e : isNumber (.at (.int i)) = false := by show (decide (-1000000 ≤ i) && decide (i ≤ 1000000)) = _; rw [show decide (-1000000 ≤ i) = false from Bool.eq_false_iff.mpr c]; rfl
        rw [e] at fin; exact fin
/-! is_box -/
def letT : T := [97, 98, 99, 100, 101, 102, 103, 104, 105, 106, 107, 108, 109, 110, 111, 112, 113, 114, 115, 116, 117, 118, 119, 120, 121, 122]
theorem letters_S : ("abcdefghijklmnopqrstuvwxyz" : Str) = S letT := by decide +kernel
theorem let_contains (c : Nat) : letT.contains c = (decide (97 ≤ c) && decide (c ≤ 122)) := by
  by_cases h : c < 128
  · have : ∀ c < 128, letT.contains c = (decide (97 ≤ c) && decide (c ≤ 122)) := by decide +kernel
    exact this c h
  · have e1 : letT.contains c = false := by
      rw [List.contains_eq_mem, decide_eq_false_iff_not]
      intro hm
      have : ∀ x ∈ letT, x < 128 := by decide
      exact h (this c hm)
    rw [e1, show decide (c ≤ 122) = false from decide_eq_false (by omega), Bool.and_false]
theorem small {n : Nat} (h : n ≤ 1000) : n ≤ sizeLine := Nat.le_of_lt (small1000 h)
theorem ndBox : (["sign", "thing"] : List Str).Nodup := by decide +kernel
theorem scBox : FnScope ["thing"] ["thing"] (defScope sBox) := ⟨rfl, rfl, rfl, by decide +kernel, rfl, by decide +kernel, by decide +kernel⟩
theorem ok_box {f : Addr} {fd : FuncData} (F : Fun K "is_box" "is_box" sBox f fd) (T : Tx mg) : FnOk P w K mg base CX0 1 f fd ["thing"] (spP isBox) := by
  refine F.ok scBox spP_len (fun cdv A outer s H vs Q E hr h => ?_)
  obtain ⟨p, v, rfl, rp, q⟩ := h
  obtain ⟨t3, e3⟩ := T.lbox
  obtain ⟨tl, el⟩ := T.letters
  refine ⟨_, pss_cons (ps_if (PW.pt (pw_or (pt_not (pt_val (pe_callB call_isi rfl T.isi boot_isinstance (pa_cons (pv 0) (pa_cons (pe_bltn rfl T.str boot_str (v := .ty "str") rfl) pa_nil)))))
      (pw_or1 (pt_not (pt_chain op_le op_le pe_int (pe_callB call_len_str rfl T.len PySem.boot_len (pa_cons (pv 0) pa_nil)) (pe_glob rfl e3 (v := .int 3) ⟨_, rfl⟩)))))) (pss_one (ps_ret pe_bl)) pss_nil)
    (pss_one (ps_ret (pe_callB (call_all rfl) rfl T.all boot_all (pa_cons (pe_comp (T := ["sign"]) (scopeIn_of (defScope sBox) ["thing"] rfl rfl (by decide +kernel)) rfl (pi_str (pv 0)) (fun Y hY => by cases hY; exact pg_name (i := 0) ndBox rfl (Or.inl rfl)) firsts_one (fun Y _ => pifs_nil)
      (fun Y hY => by cases hY; exact pe_cmpR op_in_sign (pv 0) (pe_glob rfl el (v := .str "abcdefghijklmnopqrstuvwxyz") ⟨_, rfl⟩) rfl)) pa_nil)))), ?_⟩
  obtain ⟨t, ty, c⟩ := rp.ty (K := K)
  rcases c with ⟨xs, rfl, rfl⟩ | ⟨i, rfl, rfl⟩ | ⟨x, rfl, rfl⟩ | ⟨rfl, rfl⟩
  · exact ⟨_, rfl, _, _, _, _, _, rfl, ty, fun u z => z, k_tuple_str, _, rfl, iteT (q H (Same.refl H))⟩
  · exact ⟨_, rfl, _, _, _, _, _, rfl, ty, fun u z => z, k_int_str, _, rfl, iteT (q H (Same.refl H))⟩
  · obtain ⟨e, hx⟩ := (show v = .str (S x) ∧ x.length ≤ 1000000 from rp)
    subst e
    have hz : (S x).length ≤ sizeLine := by rw [len_S, sizeLine_eq]; omega
    refine ⟨_, rfl, _, _, _, _, _, rfl, ty, fun u z => z, k_same _, _, rfl, iteF ⟨_, rfl, S x, rfl, hz, _, _, rfl, rfl, _, rfl, ?_⟩⟩
    rw [len_S]
    refine ite2 (fun c1 => ⟨_, _, rfl, rfl, _, rfl, ?_⟩) (fun c1 => ⟨_, rfl, iteT ?_⟩)
    · refine ite2 (fun c2 => ?_) (fun c2 => ?_)
      · have fin := q H (Same.refl H)
        have e : isBox (.at (.str x)) = false := by
          have h3 : ¬ (x.length : Int) ≤ 3 := by simpa using c2
          show (decide (1 ≤ x.length) && decide (x.length ≤ 3) && _) = false
          rw [show decide (x.length ≤ 3) = false from decide_eq_false (by omega)]; simp
        rw [e] at fin; exact fin
      · refine ⟨_, rfl, x, rfl, comp_go (n := x.length) (fun i ys H' => H' = H ∧ ys = ((x.take i).map fun c => letT.contains c).map V.bl) ⟨rfl, by simp⟩ ?_ ?_⟩
        · rintro i ys _ hi ⟨rfl, rfl⟩
          refine ⟨hi, ?_, ?_⟩
          · simp only [List.length_map, List.length_take]; exact Nat.lt_of_le_of_lt (Nat.min_le_left _ _) (Nat.lt_of_lt_of_le hi (by rw [sizeLine_eq]; omega))
          · rintro y _ ⟨rfl, rfl⟩
            refine turn1 ?_
            refine ⟨_, rfl, _, letT, rfl, by rw [letters_S], Wc.next hi ⟨rfl, ?_⟩⟩
            rw [take_one hi, List.map_append, List.map_append, getD_at hi]; rfl
        · rintro ys _ ⟨rfl, rfl⟩
          refine ⟨rfl, fun p hp => ⟨p, (x.take x.length).map fun c => letT.contains c, rfl, SqL.of upd_same, ?_⟩⟩
          have fin := q _ (same_new hp (.lst (((x.take x.length).map fun c => letT.contains c).map V.bl)))
          have e : isBox (.at (.str x)) = ((x.take x.length).map fun c => letT.contains c).all id := by
            show (decide (1 ≤ x.length) && decide (x.length ≤ 3) && _) = _
            have h1 : (1 : Int) ≤ x.length := by simpa using c1
            have h3 : (x.length : Int) ≤ 3 := by simpa using c2
            rw [show decide (1 ≤ x.length) = true from decide_eq_true (by omega), show decide (x.length ≤ 3) = true from decide_eq_true (by omega), List.take_length]
            simp only [Bool.and_self, Bool.true_and, List.all_map]
            congr 1
            funext c
            exact (let_contains c).symm
          rw [e] at fin; exact fin
    · have fin := q H (Same.refl H)
      have e : isBox (.at (.str x)) = false := by
        have h1 : ¬ (1 : Int) ≤ x.length := by simpa using c1
        show (decide (1 ≤ x.length) && decide (x.length ≤ 3) && _) = false
        rw [show decide (1 ≤ x.length) = false from decide_eq_false (by omega)]; simp
      rw [e] at fin; exact fin
  · exact ⟨_, rfl, _, _, _, _, _, rfl, ty, fun u z => z, k_none_str, _, rfl, iteT (q H (Same.refl H))⟩
end
end W2

-- D2
set_option linter.all false
set_option maxRecDepth 100000
/-! the defs of programs.py: rows and programs -/
namespace W2
open PySem PySem.Spec PyProof.Rows K2 L2
section
variable {P : Program} {w : World} {K : PySem.W.Frag} {mg : Str → Option Value} {base : Heap}
/-! is_thing, is_rows -/
theorem scThing : FnScope ["thing"] ["thing"] (defScope sThing) := ⟨rfl, rfl, rfl, by decide +kernel, rfl, by decide +kernel, by decide +kernel⟩
theorem ok_thing {f : Addr} {fd : FuncData} (F : Fun K "is_thing" "is_thing" sThing f fd) (hn : HasP P w K mg base 2 "is_number" isNumber) (hb : HasP P w K mg base 1 "is_box" isBox) : FnOk P w K mg base CX0 3 f fd ["thing"] (spP isThing) := by
  refine F.ok scThing spP_len (fun cdv A outer s H vs Q E hr h => ?_)
  obtain ⟨p, v, rfl, rp, q⟩ := h
  refine ⟨_, pss_one (ps_ret (pe_or (pe_callH hn hr rfl pass0 (pa_cons (pv 0) pa_nil)) (pe_one (pe_callH hb hr rfl pass0 (pa_cons (pv 0) pa_nil))))), ?_⟩
  refine ⟨_, rfl, p, v, rfl, rp, fun H1 s1 => ⟨_, rfl, ite2 (fun c => ?_) (fun c => ⟨_, rfl, p, v, rfl, s1.rep rp, fun H2 s2 => ?_⟩)⟩⟩
  · have fin := q H1 s1
    rw [show isThing p = true by unfold isThing; rw [c]; rfl] at fin; exact fin
  · have fin := q H2 (s1.trans s2)
    rw [show isThing p = isBox p by unfold isThing; rw [Bool.eq_false_iff.mpr c]; rfl] at fin; exact fin
theorem scRows : FnScope ["thing"] ["thing"] (defScope sRows) := ⟨rfl, rfl, rfl, by decide +kernel, rfl, by decide +kernel, by decide +kernel⟩
theorem ok_rows {f : Addr} {fd : FuncData} (F : Fun K "is_rows" "is_rows" sRows f fd) (T : Tx mg) : FnOk P w K mg base CX0 1 f fd ["thing"] (spP isRows) := by
  refine F.ok scRows spP_len (fun cdv A outer s H vs Q E hr h => ?_)
  obtain ⟨p, v, rfl, rp, q⟩ := h
  refine ⟨_, pss_one (ps_ret (pe_callB call_isi rfl T.isi boot_isinstance (pa_cons (pv 0) (pa_cons (pe_bltn rfl T.tuple boot_tuple (v := .ty "tuple") rfl) pa_nil)))), ?_⟩
  obtain ⟨t, ty, c⟩ := rp.ty (K := K)
  have fin := q H (Same.refl H)
  rcases c with ⟨xs, rfl, rfl⟩ | ⟨i, rfl, rfl⟩ | ⟨x, rfl, rfl⟩ | ⟨rfl, rfl⟩
  · exact ⟨_, rfl, _, _, _, _, _, rfl, ty, fun u z => z, k_same _, fin⟩
  · exact ⟨_, rfl, _, _, _, _, _, rfl, ty, fun u z => z, k_int_tuple, fin⟩
  · exact ⟨_, rfl, _, _, _, _, _, rfl, ty, fun u z => z, k_str_tuple, fin⟩
  · exact ⟨_, rfl, _, _, _, _, _, rfl, ty, fun u z => z, k_none_tuple, fin⟩
/-! kinds -/
def kindT : K2.Kind → T
  | .hand => [104, 97, 110, 100]
  | .mark => [109, 97, 114, 107]
  | .thing => [116, 104, 105, 110, 103]
  | .anyHand => [97, 110, 121, 32, 104, 97, 110, 100]
  | .anyMark => [97, 110, 121, 32, 109, 97, 114, 107]
  | .box => [98, 111, 120]
  | .number => [110, 117, 109, 98, 101, 114]
  | .rows => [114, 111, 119, 115]
def kindV : Option K2.Kind → V
  | none => .non
  | some k => .str (S (kindT k))
theorem sAnyHand : ("any hand" : Str) = S (kindT .anyHand) := by decide +kernel
theorem sAnyMark : ("any mark" : Str) = S (kindT .anyMark) := by decide +kernel
theorem sHand : ("hand" : Str) = S (kindT .hand) := by decide +kernel
theorem eqV_str (x y : T) : eqV (.str (S x)) (.str (S y)) = decide (x = y) := by
  show (S x == S y) = _
  by_cases h : x = y
  · subst h; simp
  · rw [decide_eq_false h]; exact beq_false_of_ne fun z => h (S_inj z)
theorem any_in (k : Option K2.Kind) : inV (kindV k) [.str "any hand", .str "any mark"] = mayAny k := by
  rw [sAnyHand, sAnyMark]
  unfold inV
  cases k with
  | none => rfl
  | some k =>
    simp only [List.any_cons, List.any_nil, kindV, eqV_str]
    cases k <;> decide
theorem hand_in (k : K2.Kind) : inV (.str (S (kindT k))) [.str "hand", .str "any hand"] = (decide (k = .hand) || decide (k = .anyHand)) := by
  rw [sAnyHand, sHand]
  unfold inV
  simp only [List.any_cons, List.any_nil, eqV_str]
  cases k <;> decide
theorem scAny : FnScope ["kind"] ["kind"] (defScope sAny) := ⟨rfl, rfl, rfl, by decide +kernel, rfl, by decide +kernel, by decide +kernel⟩
def spAny : Sp := fun vs H Q _ => ∃ k, vs = [kindV k] ∧ ∀ H', Same H H' → Q (.bl (mayAny k)) H'
theorem kindV_flat (k : Option K2.Kind) : flatV (kindV k) = true := by cases k <;> rfl
theorem ok_any {f : Addr} {fd : FuncData} (F : Fun K "may_be_any" "may_be_any" sAny f fd) : FnOk P w K mg base CX0 1 f fd ["kind"] spAny := by
  refine F.ok scAny (fun vs H Q E h => ?_) (fun cdv A outer s H vs Q E hr h => ?_)
  · obtain ⟨k, rfl, _⟩ := h; rfl
  obtain ⟨k, rfl, q⟩ := h
  refine ⟨_, pss_one (ps_ret (pe_cmpR op_in_seq (pv 0) (pe_tup (pa_cons pe_str (pa_cons pe_str pa_nil))) rfl)), ?_⟩
  refine ⟨_, rfl, (by show 2 ≤ sizeLine; decide), fun t ht => ⟨t, _, rfl, .inr (SqT.of upd_same), kindV_flat k, rfl, ?_⟩⟩
  have fin := q _ (same_new ht (.tup [.str "any hand", .str "any mark"]))
  rw [← any_in] at fin; exact fin
/-! fits_place -/
/-- the checks that CHECKS holds -/
def chkOf : K2.Kind → PV → Bool
  | .mark => isMark
  | .anyMark => isMark
  | .number => isNumber
  | .box => isBox
  | .thing => isThing
  | .rows => isRows
  | _ => fun _ => false
structure Checks (P : Program) (w : World) (K : PySem.W.Frag) (mg : Str → Option Value) (base : Heap) : Prop where
  ex : ∃ a kvs, mg "CHECKS" = some (.ref a) ∧ KDict P w K a kvs ∧ ∀ k : K2.Kind, k ≠ .hand → k ≠ .anyHand → ∃ f fd, valK kvs (S (kindT k)) = some (.ref f) ∧ FnOk P w K mg base CX0 3 f fd ["thing"] (spP (chkOf k)) ∧ Binds K fd ["thing"] [] ∧ PySem.W.keepIn K (.ref f) = true
def intsV (os : List Int) : List V := os.map V.int
def spFits : Sp := fun vs H Q _ => ∃ p v k o os, vs = [v, .str (S (kindT k)), .ref o] ∧ Rep H p v ∧ H o = some (.lst (intsV os)) ∧ ∀ H', Same H H' → Q (.bl (fits os p k)) H'
theorem intsV_flat (os : List Int) : (intsV os).all flatV = true := by unfold intsV; rw [List.all_map]; exact List.all_eq_true.mpr fun _ _ => rfl
theorem in_ints (i : Int) (os : List Int) : inV (.int i) (intsV os) = os.contains i := by
  unfold inV intsV
  rw [List.any_map, List.contains_eq_any_beq]
  congr 1; funext y
  show (y == i) = (i == y)
  exact Bool.beq_comm
theorem scFits : FnScope ["thing", "kind", "others", "check"] ["thing", "kind", "others"] (defScope sFits) := ⟨rfl, rfl, rfl, by decide +kernel, rfl, by decide +kernel, by decide +kernel⟩
theorem fits_hand {os : List Int} {p : PV} {k : K2.Kind} (hn : p ≠ .at .non) (hk : k = .hand ∨ k = .anyHand) : fits os p k = isHand os p := by
  rcases hk with rfl | rfl <;> (cases p with
    | tup ps => rfl
    | «at» a => cases a <;> first | rfl | exact absurd rfl hn)
theorem fits_chk {os : List Int} {p : PV} {k : K2.Kind} (hn : p ≠ .at .non) (h1 : k ≠ .hand) (h2 : k ≠ .anyHand) : fits os p k = chkOf k p := by
  cases k <;> first | exact absurd rfl h1 | exact absurd rfl h2 | (cases p with
    | tup ps => rfl
    | «at» a => cases a <;> first | rfl | exact absurd rfl hn)
theorem rep_ne {H : Hp} {p : PV} {v : V} (r : Rep H p v) (hn : p ≠ .at .non) : v ≠ .non := by
  cases p with
  | tup ps => obtain ⟨a, vs, rfl, _⟩ := r.tup; exact fun z => by cases z
  | «at» a =>
    cases a with
    | non => exact absurd rfl hn
    | int i => cases (show v = .int i from r); exact fun z => by cases z
    | str x => obtain ⟨e, _⟩ := (show v = .str (S x) ∧ _ from r); subst e; exact fun z => by cases z
theorem ok_fits {f : Addr} {fd : FuncData} (F : Fun K "fits_place" "fits_place" sFits f fd) (T : Tx mg) (hm : Has P w K mg base CX0 1 "may_be_any" ["kind"] spAny) (hw : HasP P w K mg base 1 "is_whole" isWhole) (C : Checks P w K mg base) :
    FnOk P w K mg base CX0 4 f fd ["thing", "kind", "others"] spFits := by
  refine F.ok scFits (fun vs H Q E h => ?_) (fun cdv A outer s H vs Q E hr h => ?_)
  · obtain ⟨p, v, k, o, os, rfl, _⟩ := h; rfl
  obtain ⟨p, v, k, o, os, rfl, rp, ho, q⟩ := h
  obtain ⟨a, kvs, ma, D, ck⟩ := C.ex
  refine ⟨_, pss_cons (ps_if (pt_cmp (pc_isN (pv 0))) (pss_one (ps_ret (pe_callH hm hr rfl pass0 (pa_cons (pv 1) pa_nil)))) pss_nil)
    (pss_cons (ps_if (pt_cmpR op_in_seq (pv 1) (pe_tup (pa_cons pe_str (pa_cons pe_str pa_nil))) rfl) (pss_one (ps_ret (pe_and (pe_callH hw hr rfl pass0 (pa_cons (pv 0) pa_nil)) (pe_one (pe_cmpR op_in_seq (pv 0) (pv 2) rfl))))) pss_nil)
    (pss_cons (ps_set (i := 3) scFits.nd rfl (Or.inl rfl) (pe_ix (ix_kdict D) (pe_glob rfl ma (v := .ref a) rfl) (pv 1) (fun _ _ => rfl)))
    (pss_one (ps_ret (pe_callV (k := 3) 3 hr (pa_cons (pv 0) pa_nil)))))), ?_⟩
  by_cases hn : p = .at .non
  · subst hn
    cases (show v = .non from rp)
    exact ⟨_, rfl, _, rfl, iteT ⟨_, rfl, some k, rfl, fun H' sm => q H' sm⟩⟩
  have hv := rep_ne rp hn
  refine ⟨_, rfl, _, rfl, ite2 (fun c => absurd (of_decide_eq_true c) hv) (fun _ => ?_)⟩
  refine ⟨_, rfl, (by show 2 ≤ sizeLine; decide), fun t ht => ⟨t, _, rfl, .inr (SqT.of upd_same), rfl, rfl, _, rfl, ?_⟩⟩
  have s0 : Same H (upd H t (.tup [.str "hand", .str "any hand"])) := same_new ht _
  refine ite2 (fun c => ?_) (fun c => ?_)
  · have hk : k = .hand ∨ k = .anyHand := by
      have c' : inV (.str (S (kindT k))) [.str "hand", .str "any hand"] = true := c
      rw [hand_in] at c'
      simpa using c'
    refine ⟨_, rfl, p, v, rfl, s0.rep rp, fun H1 s1 => ⟨_, rfl, ?_⟩⟩
    have fin := q H1 (s0.trans s1)
    rw [fits_hand hn hk] at fin
    cases p with
    | tup ps => exact iteF fin
    | «at» b =>
      cases b with
      | non => exact iteF fin
      | str x => exact iteF fin
      | int i =>
        cases (show v = .int i from rp)
        refine iteT ⟨_, rfl, _, rfl, o, _, rfl, .inl (SqL.of (s1 _ _ (s0 _ _ ho))), rfl, intsV_flat os, ?_⟩
        show Q (.bl (inV (.int i) (intsV os))) H1
        rw [in_ints]; exact fin
  · have hk : ¬ (k = .hand ∨ k = .anyHand) := fun z => c (by
      show inV (.str (S (kindT k))) [.str "hand", .str "any hand"] = true
      rw [hand_in]; simpa using z)
    have h1 : k ≠ .hand := fun z => hk (.inl z)
    have h2 : k ≠ .anyHand := fun z => hk (.inr z)
    obtain ⟨f2, fd2, e2, F2, B2, kp2⟩ := ck k h1 h2
    refine ⟨_, rfl, _, _, rfl, rfl, e2, f2, fd2, _, _, rfl, F2, B2, kp2, _, rfl, p, v, rfl, s0.rep rp, fun H1 s1 => ?_⟩
    have fin := q H1 (s0.trans s1)
    rw [fits_chk hn h1 h2] at fin
    exact fin
end
end W2

-- D3
set_option linter.all false
set_option maxRecDepth 100000
/-! is_row, rows_within -/
namespace W2
open PySem PySem.Spec PyProof.Rows K2 L2
section
variable {P : Program} {w : World} {K : PySem.W.Frag} {mg : Str → Option Value} {base : Heap}
def kindsV (ks : List K2.Kind) : List V := ks.map fun k => .str (S (kindT k))
structure Forms (P : Program) (w : World) (K : PySem.W.Frag) (mg : Str → Option Value) : Prop where
  ex : ∃ a kvs, mg "FORMS" = some (.ref a) ∧ KDict P w K a kvs ∧ (∀ x ks, form x = some ks → ∃ b, valK kvs (S x) = some (.ref b) ∧ ∀ H, SqT K H b (kindsV ks)) ∧ ∀ x, form x = none → valK kvs (S x) = none
def spRow : Sp := fun vs H Q _ => ∃ p v o os, vs = [v, .ref o] ∧ Rep H p v ∧ H o = some (.lst (intsV os)) ∧ ∀ H', Same H H' → Q (.bl (isRow os p)) H'
theorem cut_tail (v : V) (vr : List V) : cutV (v :: vr) (some 1) none = vr := by
  unfold cutV
  have e : HT.sIx (v :: vr).length 0 (some 1) = 1 := by
    have := HT.sIx_nat (v :: vr).length 0 1
    rw [show ((1 : Nat) : Int) = 1 from rfl] at this
    rw [this, List.length_cons]; omega
  rw [e, HT.sIx_none]
  simp
theorem ndRow : (["thing", "kind", "row", "others", "form"] : List Str).Nodup := by decide +kernel
theorem scRow : FnScope ["row", "others", "form"] ["row", "others"] (defScope sRow) := ⟨rfl, rfl, rfl, by decide +kernel, rfl, by decide +kernel, by decide +kernel⟩
theorem ok_row {f : Addr} {fd : FuncData} (F : Fun K "is_row" "is_row" sRow f fd) (T : Tx mg) (hf : Has P w K mg base CX0 4 "fits_place" ["thing", "kind", "others"] spFits) (C : Forms P w K mg) : FnOk P w K mg base CX0 5 f fd ["row", "others"] spRow := by
  refine F.ok scRow (fun vs H Q E h => ?_) (fun cdv A outer s H vs Q E hr h => ?_)
  · obtain ⟨p, v, o, os, rfl, _⟩ := h; rfl
  obtain ⟨p, v, o, os, rfl, rp, ho, q⟩ := h
  obtain ⟨a, kvs, ma, D, fsome, fnone⟩ := C.ex
  refine ⟨_, pss_cons (ps_if (PW.pt (pw_or (pt_not (pt_val (pe_callB call_isi rfl T.isi boot_isinstance (pa_cons (pv 0) (pa_cons (pe_bltn rfl T.tuple boot_tuple (v := .ty "tuple") rfl) pa_nil)))))
      (pw_or (pt_cmpR op_eq (pe_callB call_len_seq rfl T.len PySem.boot_len (pa_cons (pv 0) pa_nil)) pe_int (nomark _))
      (pw_or1 (pt_not (pt_val (pe_callB call_isi rfl T.isi boot_isinstance (pa_cons (pe_ix ix_tup (pv 0) pe_int (fun _ _ => rfl)) (pa_cons (pe_bltn rfl T.str boot_str (v := .ty "str") rfl) pa_nil))))))))) (pss_one (ps_ret pe_bl)) pss_nil)
    (pss_cons (ps_set (i := 2) scRow.nd rfl (Or.inl rfl) (pe_bmG (kd_type D) PySem.F.plainAttrs_dict PySem.F.slot_dict_get PySem.F.type_dict_get (mt_kget D) (pe_glob rfl ma (v := .ref a) rfl) (pa_cons (pe_ix ix_tup (pv 0) pe_int (fun _ _ => rfl)) pa_nil)))
    (pss_cons (ps_if (PW.pt (pw_or (pt_cmp (pc_isN (pv 2))) (pw_or1 (pt_cmpR op_ne (pe_callB call_len_seq rfl T.len PySem.boot_len (pa_cons (pv 0) pa_nil)) (pe_op op_add (pe_callB call_len_seq rfl T.len PySem.boot_len (pa_cons (pv 2) pa_nil)) pe_int) (nomark _))))) (pss_one (ps_ret pe_bl)) pss_nil)
    (pss_one (ps_ret (pe_callB (call_all rfl) rfl T.all boot_all (pa_cons (pe_comp (T := ["thing", "kind"]) (scopeIn_of (defScope sRow) ["row", "others", "form"] rfl rfl (by decide +kernel)) rfl (pi_zip rfl T.zip (pa_cons (pe_slice sl_tup (pv 0) (po_some pe_int) po_none) (pa_cons (pv 2) pa_nil)))
      (fun Y hY => by cases hY; exact pg_tup rfl (pgs_cons (pg_name (i := 0) ndRow rfl (Or.inl rfl)) (pgs_cons (pg_name (i := 1) ndRow rfl (Or.inl rfl)) pgs_nil))) firsts_two (fun Y _ => pifs_nil)
      (fun Y hY => by cases hY; exact pe_callH hf hr rfl pass0 (pa_cons (pv 0) (pa_cons (pv 1) (pa_cons (pv 3) pa_nil))))) pa_nil)))))), ?_⟩
  have no : isRow os p = false → Q (.bl false) H := fun e => by have fin := q H (Same.refl H); rw [e] at fin; exact fin
  obtain ⟨t, ty, c⟩ := rp.ty (K := K)
  rcases c with ⟨ps, rfl, rfl⟩ | ⟨i, rfl, rfl⟩ | ⟨x, rfl, rfl⟩ | ⟨rfl, rfl⟩
  rotate_left
  · exact ⟨_, rfl, _, _, _, _, _, rfl, ty, fun u z => z, k_int_tuple, _, rfl, iteT (no rfl)⟩
  · exact ⟨_, rfl, _, _, _, _, _, rfl, ty, fun u z => z, k_str_tuple, _, rfl, iteT (no rfl)⟩
  · exact ⟨_, rfl, _, _, _, _, _, rfl, ty, fun u z => z, k_none_tuple, _, rfl, iteT (no rfl)⟩
  obtain ⟨b, vs, rfl, hb, rs⟩ := rp.tup
  refine ⟨_, rfl, _, _, _, _, _, rfl, ty, fun u z => z, k_same _, _, rfl, iteF ?_⟩
  refine ⟨_, rfl, b, _, rfl, .inr (SqT.of hb), rfl, _, rfl, ?_⟩
  cases ps with
  | nil =>
    cases (show vs = [] from by simpa only [Reps] using rs)
    exact ite2 (fun _ => iteT (no rfl)) (fun c => absurd rfl c)
  | cons p0 pr =>
    obtain ⟨v0, vr, rfl, r0, rr⟩ := (show ∃ v r, vs = v :: r ∧ Rep H p0 v ∧ Reps H pr r from by simpa only [Reps] using rs)
    refine ite2 (fun c => ?_) (fun _ => ?_)
    · have z := of_decide_eq_true c
      injection z with z
      rw [List.length_cons] at z
      omega
    have at0 : atI (v0 :: vr) 0 = some v0 := atI_nat (j := 0) rfl
    obtain ⟨t0, ty0, c0⟩ := r0.ty (K := K)
    rcases c0 with ⟨qs, rfl, rfl⟩ | ⟨i, rfl, rfl⟩ | ⟨x, rfl, rfl⟩ | ⟨rfl, rfl⟩
    · exact ⟨_, rfl, b, _, 0, v0, rfl, rfl, SqT.of hb, at0, _, _, _, _, _, rfl, ty0, fun u z => z, k_tuple_str, _, rfl, iteT (no rfl)⟩
    · exact ⟨_, rfl, b, _, 0, v0, rfl, rfl, SqT.of hb, at0, _, _, _, _, _, rfl, ty0, fun u z => z, k_int_str, _, rfl, iteT (no rfl)⟩
    rotate_left
    · exact ⟨_, rfl, b, _, 0, v0, rfl, rfl, SqT.of hb, at0, _, _, _, _, _, rfl, ty0, fun u z => z, k_none_str, _, rfl, iteT (no rfl)⟩
    obtain ⟨e0, hx⟩ := (show v0 = .str (S x) ∧ x.length ≤ 1000000 from r0)
    subst e0
    refine ⟨_, rfl, b, _, 0, _, rfl, rfl, SqT.of hb, at0, _, _, _, _, _, rfl, ty0, fun u z => z, k_same _, _, rfl, iteF ?_⟩
    refine ⟨rfl, _, rfl, b, _, 0, _, rfl, rfl, SqT.of hb, at0, rfl, S x, .inl ⟨rfl, ?_⟩⟩
    cases hfm : form x with
    | none =>
      rw [fnone x hfm]
      refine ⟨_, rfl, _, rfl, iteT (iteT (no ?_))⟩
      show (match form x with | some ks => _ | none => false) = false
      rw [hfm]
    | some ks =>
      obtain ⟨fa, e1, e2⟩ := fsome x ks hfm
      rw [e1]
      refine ⟨_, rfl, _, rfl, ite2 (fun c => absurd (of_decide_eq_true c) (by intro z; cases z)) (fun _ => ?_)⟩
      refine ⟨_, rfl, b, _, rfl, .inr (SqT.of hb), _, rfl, fa, _, rfl, .inr (e2 _), _, _, rfl, rfl, rfl, _, rfl, ?_⟩
      have lk : (kindsV ks).length = ks.length := by unfold kindsV; rw [List.length_map]
      have lr := rr.len
      have row_eq : isRow os (.tup (.at (.str x) :: pr)) = (decide (pr.length = ks.length) && fitsAll os pr ks) := by
        show (match form x with | some ks => _ | none => false) = _
        rw [hfm]
      refine ite2 (fun c => ?_) (fun c => ?_)
      · refine no ?_
        have : ¬ (V.int (((V.str (S x) :: vr).length : Nat) : Int) = V.int (((kindsV ks).length : Int) + 1)) := by simpa using c
        rw [row_eq, show decide (pr.length = ks.length) = false from decide_eq_false fun z => this (by rw [List.length_cons, lk, ← lr, z]; simp)]
        rfl
      · have hl : pr.length = ks.length := by
          have : V.int (((V.str (S x) :: vr).length : Nat) : Int) = V.int (((kindsV ks).length : Int) + 1) := by simpa using c
          injection this with z
          rw [List.length_cons, lk] at z
          omega
        refine ⟨_, rfl, 1, rfl, b, _, rfl, SqT.of hb, ?_, fun t ht => ?_⟩
        · rw [show HT.sIx (V.str (S x) :: vr).length 0 (some 1) = 1 from by
            have := HT.sIx_nat (V.str (S x) :: vr).length 0 1
            rw [show ((1 : Nat) : Int) = 1 from rfl] at this
            rw [this, List.length_cons]; omega]
          intro z; exact absurd z.1 (by decide)
        rw [cut_tail]
        have s0 : Same H (upd H t (.tup vr)) := same_new ht _
        refine ⟨_, rfl, t, fa, vr, _, rfl, SqT.of upd_same, e2 _, by omega, ?_⟩
        refine comp_go (n := vr.length) (fun i ys H' => Same (upd H t (.tup vr)) H' ∧ ys = (((pr.zip ks).take i).map fun z => fits os z.1 z.2).map V.bl) ⟨Same.refl _, by simp⟩ ?_ ?_
        · rintro i ys H1 hi ⟨s1, rfl⟩
          refine ⟨⟨hi, s1.sqt (SqT.of upd_same), e2 _⟩, ?_, ?_⟩
          · simp only [List.length_map, List.length_take]
            exact Nat.lt_of_le_of_lt (Nat.min_le_left _ _) (Nat.lt_of_lt_of_le hi (small (by have := (form_len hfm).2.1; omega)))
          · rintro y _ ⟨t2, ht2, rfl, rfl⟩
            have s2 := same_new ht2 (.tup [vr.getD i .non, (kindsV ks).getD i .non])
            have hp : i < pr.length := by omega
            have hk : i < ks.length := by omega
            have hkv : i < (kindsV ks).length := by omega
            obtain ⟨w1, hw1, rw1⟩ := rr.get' (List.getElem?_eq_getElem hp)
            have ew : vr.getD i .non = w1 := by rw [getD_at hi]; rw [List.getElem?_eq_getElem hi] at hw1; exact Option.some.inj hw1
            have ek : (kindsV ks).getD i .non = .str (S (kindT ks[i])) := by rw [getD_at hkv]; simp [kindsV]
            refine ⟨t2, _, rfl, SqT.of upd_same, rfl, _, _, rfl, _, _, rfl, rfl, yesT ?_⟩
            refine ⟨_, rfl, _, rfl, _, rfl, pr[i], _, ks[i], o, os, by rw [ek]; rfl, ?_, ?_, fun H3 s3 => Wc.next hi ⟨?_, ?_⟩⟩
            · rw [ew]; exact (s0.trans (s1.trans s2)).rep rw1
            · exact s2 _ _ (s1 _ _ (s0 _ _ ho))
            · exact s1.trans (s2.trans s3)
            · rw [take_one (by rw [List.length_zip]; omega), List.map_append, List.map_append]; simp
        · rintro ys H1 ⟨s1, rfl⟩
          refine ⟨⟨rfl, s1.sqt (SqT.of upd_same), e2 _⟩, fun p hp => ⟨p, ((pr.zip ks).take vr.length).map fun z => fits os z.1 z.2, rfl, SqL.of upd_same, ?_⟩⟩
          have fin := q _ (s0.trans (s1.trans (same_new hp (.lst ((((pr.zip ks).take vr.length).map fun z => fits os z.1 z.2).map V.bl)))))
          rw [row_eq, decide_eq_true hl, Bool.true_and] at fin
          have e9 : fitsAll os pr ks = (((pr.zip ks).take vr.length).map fun z => fits os z.1 z.2).all id := by
            unfold fitsAll
            rw [List.take_of_length_le (by rw [List.length_zip]; omega), List.all_map]; rfl
          rw [e9] at fin; exact fin
end
end W2

-- D4
set_option linter.all false
set_option maxRecDepth 100000
/-! rows_within, count_rows -/
namespace W2
open PySem PySem.Spec PyProof.Rows K2 L2
section
variable {P : Program} {w : World} {K : PySem.W.Frag} {mg : Str → Option Value} {base : Heap}
theorem sCase : ("case" : Str) = S wCase := by decide +kernel
def spWithin : Sp := fun vs H Q _ => ∃ p v os, vs = [v] ∧ Rep H p v ∧ isRow os p = true ∧ ∀ r ws H', Same H H' → H' r = some (.lst ws) → Reps H' (rowsIn p) ws → ws.length ≤ 2 → Q (.ref r) H'
theorem scWithin : FnScope ["row"] ["row"] (defScope sWithin) := ⟨rfl, rfl, rfl, by decide +kernel, rfl, by decide +kernel, by decide +kernel⟩
theorem ok_within {f : Addr} {fd : FuncData} (F : Fun K "rows_within" "rows_within" sWithin f fd) : FnOk P w K mg base CX0 1 f fd ["row"] spWithin := by
  refine F.ok scWithin (fun vs H Q E h => ?_) (fun cdv A outer s H vs Q E hr h => ?_)
  · obtain ⟨p, v, os, rfl, _⟩ := h; rfl
  obtain ⟨p, v, os, rfl, rp, hp, q⟩ := h
  refine ⟨_, pss_one (ps_ret (pe_ifExp (pt_cmpR op_eq (pe_ix ix_tup (pv 0) pe_int (fun _ _ => rfl)) pe_str (nomark _)) (pe_lst (pa_cons (pe_ix ix_tup (pv 0) pe_int (fun _ _ => rfl)) (pa_cons (pe_ix ix_tup (pv 0) pe_int (fun _ _ => rfl)) pa_nil))) (pe_lst pa_nil))), ?_⟩
  obtain ⟨x, its, ks, rfl, hf, hl, hfa⟩ := isRow_shape hp
  obtain ⟨b, vs, rfl, hb, rs⟩ := rp.tup
  obtain ⟨v0, vr, rfl, r0, rr⟩ := (show ∃ v r, vs = v :: r ∧ Rep H (.at (.str x)) v ∧ Reps H its r from by simpa only [Reps] using rs)
  obtain ⟨e0, hx⟩ := (show v0 = .str (S x) ∧ x.length ≤ 1000000 from r0)
  subst e0
  refine ⟨_, rfl, b, _, 0, _, rfl, rfl, SqT.of hb, atI_nat (j := 0) rfl, rfl, _, rfl, ite2 (fun c => ?_) (fun c => ?_)⟩
  · have hxc : x = wCase := by
      have z := of_decide_eq_true c
      injection z with z
      exact S_inj (z.trans sCase)
    subst hxc
    have hks : ks = [.box, .number, .rows, .rows] := by
      have : form wCase = some [.box, .number, .rows, .rows] := by decide
      rw [this] at hf; exact (Option.some.inj hf).symm
    subst hks
    match its, hl, rr, vr, hb with
    | [i1, i2, i3, i4], _, rr, vr, hb =>
      simp only [Reps] at rr
      obtain ⟨w1, r1, rfl, h1, w2, r2, rfl, h2, w3, r3, rfl, h3, w4, r4, rfl, h4, rfl⟩ := rr
      refine ⟨_, rfl, b, _, 3, w3, rfl, rfl, SqT.of hb, atI_nat (j := 3) rfl, _, rfl, b, _, 4, w4, rfl, rfl, SqT.of hb, atI_nat (j := 4) rfl, (by show 2 ≤ sizeLine; decide), fun r hr' => ?_⟩
      have s0 : Same H (upd H r (.lst [w3, w4])) := same_new hr' _
      exact q r _ _ s0 upd_same (by show Reps _ [i3, i4] _; exact Reps.cons (s0.rep h3) (Reps.one (s0.rep h4))) (Nat.le_refl 2)
  · refine ⟨(by show 0 ≤ sizeLine; decide), fun r hr' => ?_⟩
    have e : rowsIn (.tup (.at (.str x) :: its)) = [] := by
      have hxc : x ≠ wCase := fun z => c (by subst z; rw [sCase]; simp)
      unfold rowsIn
      split
      · rename_i y _ _ _ _ z
        injection z with z
        injection z with z _
        injection z with z
        injection z with z
        subst z
        rw [if_neg hxc]
      · rfl
    refine q r _ _ (same_new hr' (.lst [])) upd_same ?_ (by decide)
    rw [e]; exact Reps.nil
/-! count_rows -/
def optV : Option Nat → V
  | none => .non
  | some n => .int n
def spCount : Sp := fun vs H Q _ => ∃ p v o os, vs = [v, .ref o] ∧ Rep H p v ∧ H o = some (.lst (intsV os)) ∧ ∀ H', Same H H' → Q (optV (count os p)) H'
theorem scCount : FnScope ["script", "others", "many", "pending", "rows", "row"] ["script", "others"] (defScope sCount) := ⟨rfl, rfl, rfl, by decide +kernel, rfl, by decide +kernel, by decide +kernel⟩
structure CInv (H0 : Hp) (os : List Int) (o : Addr) (v : V) (res : Option Nat) (pd : Addr) (f : Nat) (σ : L2.St) (H : Hp) : Prop where
  ex : ∃ (many : Nat) (st : List PV) (vs : List V) (r1 r2 : Option V), σ = [some v, some (.ref o), some (.int many), some (.ref pd), r1, r2] ∧ Same H0 H ∧ H pd = some (.lst vs) ∧ Reps H st.reverse vs ∧ many ≤ 40 ∧ walk os f many st = res ∧ 2 * (40 - many) + st.length < f ∧ f ≤ 100
theorem ok_count {f : Addr} {fd : FuncData} (F : Fun K "count_rows" "count_rows" sCount f fd) (T : Tx mg) (hrow : Has P w K mg base CX0 5 "is_row" ["row", "others"] spRow) (hwi : Has P w K mg base CX0 1 "rows_within" ["row"] spWithin) :
    FnOk P w K mg base CX0 6 f fd ["script", "others"] spCount := by
  refine F.ok scCount (fun vs H Q E h => ?_) (fun cdv A outer s H vs Q E hr h => ?_)
  · obtain ⟨p, v, o, os, rfl, _⟩ := h; rfl
  obtain ⟨p, v, o, os, rfl, rp, ho, q⟩ := h
  obtain ⟨t40, e40⟩ := T.mrows
  refine ⟨_, (pss_cons (ps_set (i := 2) scCount.nd rfl (Or.inl rfl) pe_int)
    (pss_cons (ps_set (i := 3) scCount.nd rfl (Or.inl rfl) (pe_lst (pa_cons (pv 0) pa_nil)))
    (pss_cons (ps_while PassesOwn.never (pt_truth (pv 3) (fun _ => rfl)) (pss_cons (ps_set (i := 4) scCount.nd rfl (Or.inl rfl) (pe_bm0 PySem.F.plainAttrs_list PySem.F.slot_list_pop PySem.F.type_list_pop mt_pop (pv 3)))
    (pss_cons (ps_if (pt_not (pt_val (pe_callB call_isi rfl T.isi boot_isinstance (pa_cons (pv 4) (pa_cons (pe_bltn rfl T.tuple boot_tuple (v := .ty "tuple") rfl) pa_nil))))) (pss_one (ps_ret pe_non)) pss_nil)
    (pss_cons (ps_aug (i := 2) scCount.nd rfl (Or.inl rfl) (pe_callB call_len_seq rfl T.len PySem.boot_len (pa_cons (pv 4) pa_nil)) ip_add)
    (pss_cons (ps_if (pt_cmpR op_gt (pv 2) (pe_glob rfl e40 (v := .int 40) ⟨_, rfl⟩) (nomark _)) (pss_one (ps_ret pe_non)) pss_nil)
    (pss_one (ps_for PassesOwn.never rfl (pi_tup (pv 4)) (pg_name (i := 5) scCount.nd rfl (Or.inl rfl)) (pss_cons (ps_if (pt_not (pt_val (pe_callH hrow hr rfl pass0 (pa_cons (pv 5) (pa_cons (pv 1) pa_nil))))) (pss_one (ps_ret pe_non)) pss_nil)
    (pss_one (ps_expr (pe_bm PySem.F.plainAttrs_list PySem.F.slot_list_extend PySem.F.type_list_extend mt_extend (pv 3) (pa_cons (pe_callH hwi hr rfl pass0 (pa_cons (pv 5) pa_nil)) pa_nil))))))))))))
    (pss_one (ps_ret (pv 2)))))), ?_⟩
  refine ⟨_, rfl, (by show 1 ≤ sizeLine; decide), fun pd hpd => ?_⟩
  have s0 : Same H (upd H pd (.lst [v])) := same_new hpd _
  refine ⟨CInv H os o v (count os p) pd, ⟨100, 0, [p], [v], none, none, rfl, s0, upd_same, Reps.one (s0.rep rp), by decide, rfl, (by show 2 * 40 + 1 < 100; decide), by decide⟩, ?_⟩
  rintro m σ H1 ⟨many, st, vs, r1, r2, rfl, s1, h1, rs, hm, hw, hf, h100⟩
  refine ⟨_, rfl, !vs.isEmpty, .inl ⟨_, SqL.of h1, rfl⟩, ?_⟩
  obtain ⟨m', rfl⟩ : ∃ m', m = m' + 1 := ⟨m - 1, by omega⟩
  cases st with
  | nil =>
    cases (show vs = [] from by simpa only [List.reverse_nil, Reps] using rs)
    have fin := q H1 s1
    rw [← hw] at fin
    exact iteF ⟨_, rfl, fin⟩
  | cons x rest =>
    rw [List.reverse_cons] at rs
    obtain ⟨dl, y, rfl, rdl, ry⟩ := reps_snoc rs
    have ldl := rdl.len
    rw [List.length_reverse] at ldl
    rw [List.length_cons] at hf
    have hne : (!(dl ++ [y]).isEmpty) = true := by cases dl <;> rfl
    rw [if_pos hne]
    refine ⟨CInv H os o v (count os p) pd m', fun σ' H' z => ⟨m', Nat.lt_succ_self _, z⟩, ?_⟩
    refine ⟨_, rfl, .inl ⟨rfl, _, SqL.of h1⟩, pd, _, y, rfl, rfl, h1, (by simp), ?_⟩
    rw [List.dropLast_concat]
    have t2 : Tups H1 (upd H1 pd (.lst dl)) := tups_lst h1
    have s2 : Same H (upd H1 pd (.lst dl)) := same_old hpd s1
    have ry2 := t2.rep ry
    obtain ⟨tt, ty, c⟩ := ry2.ty (K := K)
    have no : count os p = none → ∀ H', Same H H' → Q .non H' := fun e H' z => by have fin := q H' z; rw [e] at fin; exact fin
    rcases c with ⟨ps, rfl, rfl⟩ | ⟨i, rfl, rfl⟩ | ⟨x, rfl, rfl⟩ | ⟨rfl, rfl⟩
    rotate_left
    · exact ⟨_, rfl, _, _, _, _, _, rfl, ty, fun u z => z, k_int_tuple, _, rfl, iteT (no hw.symm _ s2)⟩
    · exact ⟨_, rfl, _, _, _, _, _, rfl, ty, fun u z => z, k_str_tuple, _, rfl, iteT (no hw.symm _ s2)⟩
    · exact ⟨_, rfl, _, _, _, _, _, rfl, ty, fun u z => z, k_none_tuple, _, rfl, iteT (no hw.symm _ s2)⟩
    obtain ⟨b, ws, rfl, hb, rws⟩ := ry2.tup
    have lws := rws.len
    have hw' : (if 40 < many + ps.length then none else if ps.all (isRow os) then walk os m' (many + ps.length) ((ps.flatMap rowsIn).reverse ++ rest) else none) = count os p := hw
    refine ⟨_, rfl, _, _, _, _, _, rfl, ty, fun u z => z, k_same _, _, rfl, iteF ?_⟩
    refine ⟨_, rfl, _, rfl, b, _, rfl, .inr (SqT.of hb), _, _, rfl, rfl, ?_⟩
    refine ⟨_, rfl, _, _, rfl, rfl, _, rfl, ite2 (fun c => ?_) (fun c => ?_)⟩
    · have h40 : (40 : Int) < (many : Int) + (ws.length : Int) := of_decide_eq_true c
      rw [if_pos (by omega)] at hw'
      exact no hw'.symm _ s2
    have h40 : ¬ (40 : Int) < (many : Int) + (ws.length : Int) := fun z => c (decide_eq_true z)
    rw [if_neg (by omega)] at hw'
    refine ⟨_, rfl, b, rfl, ⟨_, SqT.of hb⟩, for_tup (xs := ws) (fun i σ' H' => ∃ us r5, σ' = [some v, some (.ref o), some (.int ((many : Int) + (ws.length : Int))), some (.ref pd), some (.ref b), r5] ∧ Same H H' ∧ H' pd = some (.lst (dl ++ us)) ∧
      Reps H' rest.reverse dl ∧ Reps H' ps ws ∧ H' b = some (.tup ws) ∧ Reps H' ((ps.take i).flatMap rowsIn) us ∧ (ps.take i).all (isRow os) = true) ?_ ?_ ?_ ?_⟩
    · exact ⟨[], _, rfl, s2, by rw [List.append_nil]; exact upd_same, t2.reps rdl, rws, hb, by simp [Reps], by simp⟩
    · rintro i σ' H' _ ⟨us, r5, _, _, _, _, _, hb', _⟩; exact SqT.of hb'
    · rintro i x σ' H' hx ⟨us, r5, rfl, s3, h3, r3, r4, hb3, r5', hall⟩
      obtain ⟨pi, hpi, rpi⟩ := r4.get hx
      have hi : i < ps.length := (List.getElem?_eq_some_iff.mp hpi).1
      have hpi' : ps[i] = pi := by rw [List.getElem?_eq_getElem hi] at hpi; exact Option.some.inj hpi
      refine ⟨_, rfl, _, rfl, pi, x, o, os, rfl, rpi, s3 _ _ ho, fun H4 s4 => ⟨_, rfl, ite2 (fun c => ?_) (fun c => ?_)⟩⟩
      · have hbad : isRow os pi = false := by simpa using c
        rw [if_neg (by
          intro hz
          have := List.all_eq_true.mp hz pi (List.mem_of_getElem? hpi)
          rw [hbad] at this; cases this)] at hw'
        exact no hw'.symm _ (s3.trans s4)
      · have hgood : isRow os pi = true := by simpa using c
        have h4 := s4 _ _ h3
        refine ⟨_, rfl, .inl ⟨rfl, _, SqL.of h4⟩, _, rfl, pi, x, os, rfl, s4.rep rpi, hgood, fun r us2 H5 s5 hr5 rr5 hz => ?_⟩
        have h5 := s5 _ _ h4
        have l1 := r5'.len
        have l2 := flat_len (ps.take i)
        rw [List.length_take] at l2
        refine ⟨pd, r, _, us2, rfl, rfl, h5, hr5, ?_, ?_⟩
        · rw [List.length_append]; exact small (by omega)
        have t6 : Tups H5 (upd H5 pd (.lst (dl ++ us ++ us2))) := tups_lst h5
        have t46 := (s4.trans s5).tups.trans t6
        refine ⟨us ++ us2, _, rfl, same_old hpd (s3.trans (s4.trans s5)), by rw [← List.append_assoc]; exact upd_same, t46.reps r3, t46.reps r4, t46 _ _ hb3, ?_, ?_⟩
        · rw [take_one hi, List.flatMap_append, hpi']
          refine (t46.reps r5').append ?_
          simp only [List.flatMap_cons, List.flatMap_nil, List.append_nil]
          exact t6.reps rr5
        · rw [take_one hi, List.all_append, hall, hpi']; simp [hgood]
    · rintro σ' H' ⟨us, r5, rfl, s3, h3, r3, r4, hb3, r5', hall⟩
      rw [List.take_of_length_le (by omega)] at r5' hall
      rw [if_pos hall] at hw'
      refine ⟨many + ps.length, _, _, some (.ref b), r5, ?_, s3, h3, ?_, by omega, hw', ?_, by omega⟩
      · rw [lws]; simp
      · rw [List.reverse_append, List.reverse_reverse]; exact r3.append r5'
      · have := flat_len ps
        rw [List.length_append, List.length_reverse]; omega
end
end W2

-- D5
set_option linter.all false
set_option maxRecDepth 100000
/-! is_program, check_program -/
namespace W2
open PySem PySem.Spec PyProof.Rows K2 L2
section
variable {P : Program} {w : World} {K : PySem.W.Frag} {mg : Str → Option Value} {base : Heap}
theorem ndProgram : (["other", "thing", "many", "hand", "script", "others", "rows"] : List Str).Nodup := by decide +kernel
theorem scProgram : FnScope ["thing", "many", "hand", "script", "others", "rows"] ["thing"] (defScope sProgram) := ⟨rfl, rfl, rfl, by decide +kernel, rfl, by decide +kernel, by decide +kernel⟩
theorem others_step (i hand : Nat) : (((List.range (i + 1)).filter (· ≠ hand)).map fun (k : Nat) => (k : Int)) = (((List.range i).filter (· ≠ hand)).map fun (k : Nat) => (k : Int)) ++ (if i ≠ hand then [(i : Int)] else []) := by
  rw [List.range_succ, List.filter_append, List.map_append]
  by_cases h : i = hand <;> simp [h]
theorem ok_program {f : Addr} {fd : FuncData} (F : Fun K "is_program" "is_program" sProgram f fd) (T : Tx mg) (hc : Has P w K mg base CX0 6 "count_rows" ["script", "others"] spCount) : FnOk P w K mg base CX0 7 f fd ["thing"] (spP isProg) := by
  refine F.ok scProgram spP_len (fun cdv A outer s H vs Q E hr h => ?_)
  obtain ⟨p, v, rfl, rp, q⟩ := h
  obtain ⟨t40, e40⟩ := T.mrows
  obtain ⟨t2, e2⟩ := T.lhands
  obtain ⟨t5, e5⟩ := T.mhands
  refine ⟨_, (pss_cons (ps_if (PW.pt (pw_or (pt_not (pt_val (pe_callB call_isi rfl T.isi boot_isinstance (pa_cons (pv 0) (pa_cons (pe_bltn rfl T.tuple boot_tuple (v := .ty "tuple") rfl) pa_nil))))) (pw_or1 (pt_not (pt_chain op_le op_le (pe_glob rfl e2 (v := .int 2) ⟨_, rfl⟩) (pe_callB call_len_seq rfl T.len PySem.boot_len (pa_cons (pv 0) pa_nil)) (pe_glob rfl e5 (v := .int 5) ⟨_, rfl⟩)))))) (pss_one (ps_ret pe_bl)) pss_nil)
    (pss_cons (ps_set (i := 1) scProgram.nd rfl (Or.inl rfl) pe_int)
    (pss_cons (ps_for PassesOwn.never rfl (pi_enum rfl T.enum (pa_cons (pv 0) pa_nil)) (pg_tup rfl (pgs_cons (pg_name (i := 2) scProgram.nd rfl (Or.inr rfl)) (pgs_cons (pg_name (i := 3) scProgram.nd rfl (Or.inl rfl)) pgs_nil))) (pss_cons (ps_setComp (i := 4) (T := ["other"]) (scopeIn_of (defScope sProgram) ["thing", "many", "hand", "script", "others", "rows"] rfl rfl (by decide +kernel)) rfl scProgram.nd rfl rfl (pi_range1 rfl T.range (pa_cons (pe_callB call_len_seq rfl T.len PySem.boot_len (pa_cons (pv 0) pa_nil)) pa_nil)) (fun Y hY => by cases hY; exact pg_name (i := 0) ndProgram rfl (Or.inl rfl)) firsts_one (fun Y hY => by cases hY; exact pifs_one (pt_cmpR op_ne (pv 0) (pv 3) (nomark _))) (fun Y hY => by cases hY; exact pv 0))
    (pss_cons (ps_set (i := 5) scProgram.nd rfl (Or.inl rfl) (pe_callH hc hr rfl pass0 (pa_cons (pv 3) (pa_cons (pv 4) pa_nil))))
    (pss_cons (ps_if (pt_cmp (pc_isN (pv 5))) (pss_one (ps_ret pe_bl)) pss_nil)
    (pss_one (ps_aug (i := 1) scProgram.nd rfl (Or.inl rfl) (pv 5) ip_add))))))
    (pss_one (ps_ret (pe_cmpR op_le (pv 1) (pe_glob rfl e40 (v := .int 40) ⟨_, rfl⟩) (nomark _))))))), ?_⟩
  obtain ⟨t, ty, c⟩ := rp.ty (K := K)
  have no : isProg p = false → ∀ H', Same H H' → Q (.bl false) H' := fun e H' z => by have fin := q H' z; rw [e] at fin; exact fin
  rcases c with ⟨ss, rfl, rfl⟩ | ⟨i, rfl, rfl⟩ | ⟨x, rfl, rfl⟩ | ⟨rfl, rfl⟩
  rotate_left
  · exact ⟨_, rfl, _, _, _, _, _, rfl, ty, fun u z => z, k_int_tuple, _, rfl, iteT (iteT (no rfl H (Same.refl H)))⟩
  · exact ⟨_, rfl, _, _, _, _, _, rfl, ty, fun u z => z, k_str_tuple, _, rfl, iteT (iteT (no rfl H (Same.refl H)))⟩
  · exact ⟨_, rfl, _, _, _, _, _, rfl, ty, fun u z => z, k_none_tuple, _, rfl, iteT (iteT (no rfl H (Same.refl H)))⟩
  obtain ⟨a, vs, rfl, ha, rs⟩ := rp.tup
  have ls := rs.len
  have prog_eq : isProg (.tup ss) = (decide (2 ≤ ss.length) && decide (ss.length ≤ 5) && (match countAll ss.length 0 ss with | some m => decide (m ≤ 40) | none => false)) := rfl
  refine ⟨_, rfl, _, _, _, _, _, rfl, ty, fun u z => z, k_same _, _, rfl, iteF ?_⟩
  refine ⟨_, rfl, a, _, rfl, .inr (SqT.of ha), _, _, rfl, rfl, _, rfl, ite2 (fun c1 => ⟨_, _, rfl, rfl, _, rfl, ?_⟩) (fun c1 => ⟨_, rfl, iteT ?_⟩)⟩
  rotate_left
  · have : ¬ (2 : Int) ≤ vs.length := by simpa using c1
    refine no ?_ H (Same.refl H)
    rw [prog_eq, show decide (2 ≤ ss.length) = false from decide_eq_false (by omega)]; rfl
  refine ite2 (fun c2 => ?_) (fun c2 => ?_)
  · have : ¬ (vs.length : Int) ≤ 5 := by simpa using c2
    refine no ?_ H (Same.refl H)
    rw [prog_eq, show decide (ss.length ≤ 5) = false from decide_eq_false (by omega), Bool.and_false]; rfl
  have h2 : (2 : Int) ≤ vs.length := by simpa using c1
  have h5 : (vs.length : Int) ≤ 5 := by simpa using c2
  have prog_eq' : isProg (.tup ss) = (match countAll ss.length 0 ss with | some m => decide (m ≤ 40) | none => false) := by
    rw [prog_eq, show decide (2 ≤ ss.length) = true from decide_eq_true (by omega), show decide (ss.length ≤ 5) = true from decide_eq_true (by omega)]; rfl
  refine ⟨_, rfl, a, _, rfl, SqT.of ha, ?_⟩
  refine for_go (n := vs.length) (fun i σ' H' => ∃ (m : Nat) (r2 r3 r4 r5 : Option V), σ' = [some (.ref a), some (.int m), r2, r3, r4, r5] ∧ Same H H' ∧ countAll ss.length 0 ss = (countAll ss.length i (ss.drop i)).map (m + ·)) ?_ ?_ ?_
  · exact ⟨0, none, none, none, none, rfl, Same.refl H, by simp⟩
  · rintro i σ' H1 hi ⟨m, r2, r3, r4, r5, rfl, s1, hm⟩
    refine ⟨⟨hi, s1.sqt (SqT.of ha)⟩, ?_⟩
    rintro x _ ⟨tp, htp, rfl, rfl⟩
    have s2 := same_new htp (.tup [.int (i : Int), vs.getD i .non])
    refine ⟨tp, _, rfl, SqT.of upd_same, rfl, _, _, rfl, _, _, rfl, rfl, ?_⟩
    have s12 := s1.trans s2
    refine ⟨_, rfl, a, _, rfl, .inr (SqT.of (s12 _ _ ha)), (vs.length : Int), rfl, (by omega), (by omega), ?_⟩
    refine comp_go (n := vs.length) (fun j ys H' => H' = upd H1 tp (.tup [.int (i : Int), vs.getD i .non]) ∧ ys = intsV (((List.range j).filter (· ≠ i)).map fun (k : Nat) => (k : Int))) ⟨rfl, rfl⟩ ?_ ?_
    · rintro j ys _ hj ⟨rfl, rfl⟩
      refine ⟨hj, ?_, ?_⟩
      · have h1 := List.length_filter_le (fun x => decide (x ≠ i)) (List.range j)
        rw [List.length_range] at h1
        unfold intsV
        rw [List.length_map, List.length_map]
        exact Nat.lt_of_le_of_lt h1 (small1000 (by omega))
      · rintro x _ ⟨rfl, rfl⟩
        refine ⟨_, rfl, _, rfl, rfl, _, rfl, ite2 (fun c => ⟨_, rfl, Wc.next hj ⟨rfl, ?_⟩⟩) (fun c => Wc.next hj ⟨rfl, ?_⟩)⟩
        · have hne : j ≠ i := fun z => by subst z; simp at c
          rw [others_step, if_pos hne]; simp [intsV]
        · have he : j = i := by
            have z : V.int (0 + (j : Int)) = V.int (i : Int) := by simpa using c
            injection z with z; omega
          rw [others_step, if_neg (by simpa using he)]; simp
    · rintro ys _ ⟨rfl, rfl⟩
      refine ⟨Nat.le_refl _, fun o ho => ?_⟩
      have e3 : intsV (((List.range vs.length).filter (· ≠ i)).map fun (k : Nat) => (k : Int)) = intsV (othersOf ss.length i) := by rw [← ls]; rfl
      rw [e3]
      have s3 := s12.trans (same_new ho (.lst (intsV (othersOf ss.length i))))
      have hi' : i < ss.length := by omega
      obtain ⟨w1, hw1, rw1⟩ := rs.get' (List.getElem?_eq_getElem hi')
      have ew : vs.getD i .non = w1 := by rw [getD_at hi]; rw [List.getElem?_eq_getElem hi] at hw1; exact Option.some.inj hw1
      refine ⟨_, rfl, _, rfl, ss[i], _, o, othersOf ss.length i, rfl, ?_, upd_same, fun H4 s4 => ?_⟩
      · exact s3.rep (by rw [ew]; exact rw1)
      have s5 := s3.trans s4
      have hd : ss.drop i = ss[i] :: ss.drop (i + 1) := List.drop_eq_getElem_cons hi'
      rw [hd] at hm
      have hm' : countAll ss.length 0 ss = ((count (othersOf ss.length i) ss[i]).bind fun a => (countAll ss.length (i + 1) (ss.drop (i + 1))).map fun b => a + b).map (m + ·) := hm
      cases hcn : count (othersOf ss.length i) ss[i] with
      | none =>
        rw [hcn] at hm'
        refine ⟨_, rfl, _, rfl, iteT (no ?_ H4 s5)⟩
        rw [prog_eq', hm']; rfl
      | some n1 =>
        rw [hcn] at hm'
        refine ⟨_, rfl, _, rfl, iteF ⟨_, rfl, _, rfl, _, _, rfl, rfl, m + n1, some (.int (i : Int)), some (vs.getD i .non), some (.ref o), some (optV (some n1)), rfl, s5, ?_⟩⟩
        · rw [hm']
          simp only [Option.bind_some, Option.map_map]
          congr 1
          funext b
          simp [Nat.add_assoc]
  · rintro σ' H1 ⟨m, r2, r3, r4, r5, rfl, s1, hm⟩
    refine ⟨⟨rfl, s1.sqt (SqT.of ha)⟩, ?_⟩
    refine ⟨_, rfl, _, _, rfl, rfl, ?_⟩
    rw [← ls, List.drop_length] at hm
    have fin := q H1 s1
    rw [prog_eq', hm] at fin
    have e4 : (match Option.map (fun x => m + x) (countAll ss.length ss.length []) with | some m => decide (m ≤ 40) | none => false) = decide ((m : Int) ≤ 40) := by
      show decide (m + 0 ≤ 40) = _
      rw [Nat.add_zero]
      exact decide_eq_decide.mpr (by omega)
    rw [e4] at fin; exact fin
end
end W2

-- D6
set_option linter.all false
set_option maxRecDepth 100000
set_option maxHeartbeats 0
/-! check_program, word_text, rows_text -/
namespace W2
open PySem PySem.Spec PyProof.Rows K2 L2
section
variable {P : Program} {w : World} {K : PySem.W.Frag} {mg : Str → Option Value} {base : Heap}
def spCheck : Sp := fun vs H Q _ => ∃ p v, vs = [v] ∧ Rep H p v ∧ isProg p = true ∧ ∀ H', Same H H' → Q .non H'
theorem scCheck : FnScope ["thing"] ["thing"] (defScope sCheck) := ⟨rfl, rfl, rfl, by decide +kernel, rfl, by decide +kernel, by decide +kernel⟩
theorem ok_check {f : Addr} {fd : FuncData} (F : Fun K "check_program" "check_program" sCheck f fd) (hp : HasP P w K mg base 7 "is_program" isProg) : FnOk P w K mg base CX0 8 f fd ["thing"] spCheck := by
  refine F.ok scCheck (fun vs H Q E h => ?_) (fun cdv A outer s H vs Q E hr h => ?_)
  · obtain ⟨p, v, rfl, _⟩ := h; rfl
  obtain ⟨p, v, rfl, rp, hpr, q⟩ := h
  refine ⟨_, pss_one (ps_if (pt_not (pt_val (pe_callH hp hr rfl pass0 (pa_cons (pv 0) pa_nil)))) pss_never pss_nil), ?_⟩
  refine ⟨_, rfl, p, v, rfl, rp, fun H1 s1 => ⟨_, rfl, ite2 (fun c => ?_) (fun _ => q H1 s1)⟩⟩
  rw [hpr] at c; cases c
/-! word_text -/
theorem sAnyW : ("any" : Str) = S wAny := by decide +kernel
def spWord : Sp := fun vs H Q _ => ∃ a v, vs = [v] ∧ Rep H (.at a) v ∧ FineA a ∧ Q (.str (S a.text)) H
theorem scWord : FnScope ["thing"] ["thing"] (defScope sWord) := ⟨rfl, rfl, rfl, by decide +kernel, rfl, by decide +kernel, by decide +kernel⟩
theorem nat_small {i : Int} (h1 : -1000000 ≤ i) (h2 : i ≤ 1000000) : i.natAbs < 2 ^ 1000 := Nat.lt_of_le_of_lt (show i.natAbs ≤ 1000000 by omega) (by decide)
theorem ok_word {f : Addr} {fd : FuncData} (F : Fun K "word_text" "word_text" sWord f fd) (T : Tx mg) : FnOk P w K mg base CX0 1 f fd ["thing"] spWord := by
  refine F.ok scWord (fun vs H Q E h => ?_) (fun cdv A outer s H vs Q E hr h => ?_)
  · obtain ⟨a, v, rfl, _⟩ := h; rfl
  obtain ⟨a, v, rfl, rp, fa, q⟩ := h
  refine ⟨_, pss_one (ps_ret (pe_ifExp (pt_cmp (pc_isN (pv 0))) pe_str (pe_callTy call_str_of rfl T.str boot_str (pa_cons (pv 0) pa_nil)))), ?_⟩
  cases a with
  | non =>
    cases (show v = .non from rp)
    refine ⟨_, rfl, _, rfl, iteT ?_⟩
    show Q (.str "any") H
    rw [sAnyW]; exact q
  | int i =>
    cases (show v = .int i from rp)
    exact ⟨_, rfl, _, rfl, iteF ⟨_, rfl, .inr ⟨i, rfl, nat_small fa.1 fa.2, q⟩⟩⟩
  | str x =>
    obtain ⟨e, _⟩ := (show v = .str (S x) ∧ x.length ≤ 1000000 from rp)
    subst e
    exact ⟨_, rfl, _, rfl, iteF ⟨_, rfl, .inl ⟨S x, rfl, q⟩⟩⟩
/-! rows_text -/
theorem join_mem {sep : T} : ∀ {ws : List T} {x : T}, x ∈ ws → x.length ≤ (joinT sep ws).length
  | [], x, h => by cases h
  | [y], x, h => by simp at h; subst h; exact Nat.le_refl _
  | y :: z :: r, x, h => by
    rw [joinT_two, List.length_append, List.length_append]
    rcases List.mem_cons.mp h with e | h
    · subst e; omega
    · have := join_mem (sep := sep) h; omega
def strsV (ts : List T) : List V := ts.map fun t => V.str (S t)
theorem strsV_append (a b : List T) : strsV (a ++ b) = strsV a ++ strsV b := List.map_append
theorem strsV_len (a : List T) : (strsV a).length = a.length := List.length_map _
def spRT (d : Nat) : Sp := fun vs H Q _ => ∃ rs v, vs = [v] ∧ Rep H (.tup rs) v ∧ Wf d (.tup rs) ∧ (textRows rs).length ≤ 100000 ∧ ∀ H', Same H H' → Q (.str (S (textRows rs))) H'
theorem scRText : FnScope ["rows", "texts", "row", "words", "thing"] ["rows"] (defScope sRText) := ⟨rfl, rfl, rfl, by decide +kernel, rfl, by decide +kernel, by decide +kernel⟩
theorem sL : ("{" : Str) = S [123] := by decide +kernel
theorem sR : ("}" : Str) = S [125] := by decide +kernel
theorem sSp : (" " : Str) = S [32] := by decide +kernel
theorem sSc : ("; " : Str) = S [59, 32] := by decide +kernel
theorem ok_rtext1 {d : Nat} {f : Addr} {fd : FuncData} (F : Fun K "rows_text" "rows_text" sRText f fd) (T : Tx mg) (hword : Has P w K mg base CX0 1 "word_text" ["thing"] spWord) (hself : Has P w K mg base CX0 (d + 1) "rows_text" ["rows"] (spRT d)) :
    FnOk P w K mg base CX0 (d + 2) f fd ["rows"] (spRT (d + 1)) := by
  refine F.ok (k := d + 1) scRText (fun vs H Q E h => ?_) (fun cdv A outer s H vs Q E hr h => ?_)
  · obtain ⟨rs, v, rfl, _⟩ := h; rfl
  obtain ⟨rs, v, rfl, rp, wf, hlen, q⟩ := h
  refine ⟨_, (pss_cons (ps_set (i := 1) scRText.nd rfl (Or.inl rfl) (pe_lst pa_nil))
    (pss_cons (ps_for PassesOwn.never rfl (pi_tup (pv 0)) (pg_name (i := 2) scRText.nd rfl (Or.inl rfl)) (pss_cons (ps_set (i := 3) scRText.nd rfl (Or.inl rfl) (pe_lst pa_nil))
    (pss_cons (ps_for PassesOwn.never rfl (pi_tup (pv 2)) (pg_name (i := 4) scRText.nd rfl (Or.inl rfl)) (pss_one (ps_if (pt_val (pe_callB call_isi rfl T.isi boot_isinstance (pa_cons (pv 4) (pa_cons (pe_bltn rfl T.tuple boot_tuple (v := .ty "tuple") rfl) pa_nil)))) (pss_one (ps_expr (pe_bm PySem.F.plainAttrs_list PySem.F.slot_list_append PySem.F.type_list_append mt_append (pv 3) (pa_cons (pe_op op_add_str (pe_op op_add_str pe_str (pe_callH hself hr rfl pass0 (pa_cons (pv 4) pa_nil))) pe_str) pa_nil)))) (pss_one (ps_expr (pe_bm PySem.F.plainAttrs_list PySem.F.slot_list_append PySem.F.type_list_append mt_append (pv 3) (pa_cons (pe_callH hword hr rfl pass0 (pa_cons (pv 4) pa_nil)) pa_nil)))))))
    (pss_one (ps_expr (pe_bm PySem.F.plainAttrs_list PySem.F.slot_list_append PySem.F.type_list_append mt_append (pv 1) (pa_cons (pe_join (pv 3)) pa_nil)))))))
    (pss_one (ps_ret (pe_join (pv 1)))))), ?_⟩
  obtain ⟨a, vs, rfl, ha, rvs⟩ := rp.tup
  have lvs := rvs.len
  have jr := joinT_len [59, 32] (rs.map textRow)
  rw [← textRows_join] at jr
  simp only [List.length_map, List.length_cons, List.length_nil] at jr
  refine ⟨(by show 0 ≤ sizeLine; decide), fun tx htx => ?_⟩
  have s0 : Same H (upd H tx (.lst [])) := same_new htx _
  refine ⟨_, rfl, a, rfl, ⟨_, SqT.of (s0 _ _ ha)⟩, for_tup (xs := vs) (fun i σ' H' => ∃ r2 r3 r4, σ' = [some (.ref a), some (.ref tx), r2, r3, r4] ∧ Same H H' ∧ H' tx = some (.lst (strsV ((rs.take i).map textRow)))) ?_ ?_ ?_ ?_⟩
  · exact ⟨none, none, none, rfl, s0, upd_same⟩
  · rintro i σ' H' _ ⟨_, _, _, _, s1, _⟩; exact SqT.of (s1 _ _ ha)
  · rintro i x σ' H1 hx ⟨r2, r3, r4, rfl, s1, h1⟩
    obtain ⟨pi, hpi, rpi⟩ := (s1.reps rvs).get hx
    have hi : i < rs.length := (List.getElem?_eq_some_iff.mp hpi).1
    have hpi' : rs[i] = pi := by rw [List.getElem?_eq_getElem hi] at hpi; exact Option.some.inj hpi
    have hmem : pi ∈ rs := List.mem_of_getElem? hpi
    obtain ⟨its, rfl, hits⟩ := (show ∀ r ∈ rs, ∃ its, r = PV.tup its ∧ ∀ it ∈ its, (∃ a, it = .at a ∧ FineA a) ∨ Wf d it from wf) pi hmem
    obtain ⟨b, ws, rfl, hb, rws⟩ := rpi.tup
    have lws := rws.len
    have lrow : (textRow (.tup its)).length ≤ (textRows rs).length := by rw [textRows_join]; exact join_mem (List.mem_map_of_mem hmem)
    have ji := joinT_len [32] (its.map textItem)
    rw [← textItems_join] at ji
    simp only [List.length_map, List.length_cons, List.length_nil] at ji
    have lrow' : (textItems its).length ≤ 100000 := Nat.le_trans lrow hlen
    refine ⟨(by show 0 ≤ sizeLine; decide), fun wd hwd => ?_⟩
    have s2 : Same H1 (upd H1 wd (.lst [])) := same_new hwd _
    refine ⟨_, rfl, b, rfl, ⟨_, SqT.of (s2 _ _ hb)⟩, for_tup (xs := ws) (fun j σ'' H'' => ∃ r4, σ'' = [some (.ref a), some (.ref tx), some (.ref b), some (.ref wd), r4] ∧ Same H1 H'' ∧ H'' wd = some (.lst (strsV ((its.take j).map textItem)))) ?_ ?_ ?_ ?_⟩
    · exact ⟨r4, rfl, s2, upd_same⟩
    · rintro j σ'' H'' _ ⟨_, _, s3, _⟩; exact SqT.of (s3 _ _ hb)
    · rintro j y σ'' H2 hy ⟨r4', rfl, s3, h3⟩
      obtain ⟨it, hit, rit⟩ := (s3.reps rws).get hy
      have hj : j < its.length := (List.getElem?_eq_some_iff.mp hit).1
      have hit' : its[j] = it := by rw [List.getElem?_eq_getElem hj] at hit; exact Option.some.inj hit
      have hmi : it ∈ its := List.mem_of_getElem? hit
      have litem : (textItem it).length ≤ (textItems its).length := by rw [textItems_join]; exact join_mem (List.mem_map_of_mem hmi)
      have hz : (strsV ((its.take j).map textItem)).length < sizeLine := by rw [strsV_len, List.length_map, List.length_take, sizeLine_eq]; omega
      obtain ⟨tt, ty, c⟩ := rit.ty (K := K)
      rcases hits it hmi with ⟨a', rfl, fa⟩ | wfd
      · have kt : PySem.W.kitOne K (.type tt) (.type "tuple") = some false := by
          rcases c with ⟨xs, e, rfl⟩ | ⟨i, e, rfl⟩ | ⟨x, e, rfl⟩ | ⟨e, rfl⟩
          · cases e
          · exact k_int_tuple
          · exact k_str_tuple
          · exact k_none_tuple
        refine ⟨_, rfl, _, _, _, _, _, rfl, ty, fun u z => z, kt, _, rfl, iteF ⟨_, rfl, .inl ⟨rfl, _, SqL.of h3⟩, _, rfl, a', y, rfl, rit, fa, wd, _, _, rfl, rfl, h3, hz, _, rfl, ?_, ?_⟩⟩
        · exact same_old hwd s3
        · exact (by rw [take_one hj, List.map_append, strsV_append, hit']; exact upd_same)
      · obtain ⟨qs, rfl, et⟩ : ∃ qs, it = .tup qs ∧ tt = "tuple" := by
          rcases c with ⟨xs, e, e2⟩ | ⟨i, rfl, _⟩ | ⟨x, rfl, _⟩ | ⟨rfl, _⟩
          · exact ⟨xs, e, e2⟩
          · cases d <;> exact wfd.elim
          · cases d <;> exact wfd.elim
          · cases d <;> exact wfd.elim
        subst et
        have lq : (textRows qs).length + 2 = (textItem (.tup qs)).length := by simp [textItem]
        have es : ("{" : Str) ++ S (textRows qs) ++ "}" = S (textItem (.tup qs)) := by rw [sL, sR, S_append, S_append]; simp [textItem]
        refine ⟨_, rfl, _, _, _, _, _, rfl, ty, fun u z => z, k_same _, _, rfl, iteT ⟨_, rfl, .inl ⟨rfl, _, SqL.of h3⟩, _, rfl, qs, y, rfl, rit, wfd, by omega, fun H3 s4 => ⟨_, _, rfl, rfl, ?_, _, _, rfl, rfl, ?_, wd, _, _, rfl, rfl, s4 _ _ h3, hz, _, rfl, ?_, ?_⟩⟩⟩
        · rw [sL, len_S, len_S, sizeLine_eq]; simp; omega
        · rw [sL, sR, S_append, len_S, len_S, sizeLine_eq]; simp; omega
        · exact same_old hwd (s3.trans s4)
        · rw [take_one hj, List.map_append, strsV_append, hit', es]; exact upd_same
    · rintro σ'' H2 ⟨r4', rfl, s3, h3⟩
      rw [List.take_of_length_le (by omega)] at h3
      refine ⟨_, rfl, .inl ⟨rfl, _, SqL.of (s3 _ _ h1)⟩, rfl, _, rfl, [32], wd, its.map textItem, by rw [sSp], rfl, SqL.of h3, ?_, tx, _, _, rfl, rfl, s3 _ _ h1, ?_, _, _, _, rfl, ?_, ?_⟩
      · simp only [List.length_map, List.length_cons, List.length_nil]; omega
      · rw [strsV_len, List.length_map, List.length_take, sizeLine_eq]; omega
      · exact same_old htx (s1.trans s3)
      · rw [take_one hi, List.map_append, strsV_append, hpi', ← textItems_join]; exact upd_same
  · rintro σ' H1 ⟨r2, r3, r4, rfl, s1, h1⟩
    rw [List.take_of_length_le (by omega)] at h1
    refine ⟨rfl, _, rfl, [59, 32], tx, rs.map textRow, by rw [sSc], rfl, SqL.of h1, ?_, ?_⟩
    · simp only [List.length_map, List.length_cons, List.length_nil]; omega
    · have fin := q H1 s1
      rw [textRows_join] at fin; exact fin
theorem rt_none {f : Addr} {fd : FuncData} : FnOk P w K mg base CX0 1 f fd ["rows"] (spRT 0) := by
  have no : ∀ vs H Q E, ¬ spRT 0 vs H Q E := fun vs H Q E ⟨rs, v, _, _, wf, _⟩ => wf
  exact ⟨fun vs H Q E h => absurd h (no vs H Q E), fun A outer s H args us vs Q E _ _ _ _ h => absurd h (no vs H Q E)⟩
theorem ok_rtext {f : Addr} {fd : FuncData} (F : Fun K "rows_text" "rows_text" sRText f fd) (B : Binds K fd ["rows"] []) (m : mg "rows_text" = some (.ref f)) (T : Tx mg) (hword : Has P w K mg base CX0 1 "word_text" ["thing"] spWord) :
    ∀ d : Nat, FnOk P w K mg base CX0 (d + 1) f fd ["rows"] (spRT d)
  | 0 => rt_none
  | d + 1 => ok_rtext1 F T hword ⟨⟨f, fd, ok_rtext F B m T hword d, B, m, F.kp⟩⟩
end
end W2

-- D7
set_option linter.all false
set_option maxRecDepth 100000
set_option maxHeartbeats 0
/-! program_text, and the reading of words -/
namespace W2
open PySem PySem.Spec PyProof.Rows K2 L2
section
variable {P : Program} {w : World} {K : PySem.W.Frag} {mg : Str → Option Value} {base : Heap}
theorem joinT_flat : ∀ ws : List T, joinT [] ws = ws.flatten
  | [] => rfl
  | [x] => by simp [joinT]
  | x :: y :: r => by rw [joinT_two, joinT_flat (y :: r)]; simp
theorem sNil : ("" : Str) = S [] := by decide +kernel
theorem sNl : ("\n" : Str) = S [10] := by decide +kernel
def spPT : Sp := fun vs H Q _ => ∃ p v, vs = [v] ∧ Rep H p v ∧ isProg p = true ∧ ∀ H', Same H H' → Q (.str (S (textProg p))) H'
theorem ndPT : (["script", "program"] : List Str).Nodup := by decide +kernel
theorem scPText : FnScope ["program"] ["program"] (defScope sPText) := ⟨rfl, rfl, rfl, by decide +kernel, rfl, by decide +kernel, by decide +kernel⟩
theorem ok_ptext {f : Addr} {fd : FuncData} (F : Fun K "program_text" "program_text" sPText f fd) (hcheck : Has P w K mg base CX0 8 "check_program" ["thing"] spCheck) (hrt : Has P w K mg base CX0 43 "rows_text" ["rows"] (spRT 42)) :
    FnOk P w K mg base CX0 44 f fd ["program"] spPT := by
  refine F.ok scPText (fun vs H Q E h => ?_) (fun cdv A outer s H vs Q E hr h => ?_)
  · obtain ⟨p, v, rfl, _⟩ := h; rfl
  obtain ⟨p, v, rfl, rp, hp, q⟩ := h
  refine ⟨_, (pss_cons (ps_expr (pe_callH hcheck hr rfl pass0 (pa_cons (pv 0) pa_nil)))
    (pss_one (ps_ret (pe_join (pe_comp (T := ["script"]) (scopeIn_of (defScope sPText) ["program"] rfl rfl (by decide +kernel)) rfl (pi_tup (pv 0)) (fun Y hY => by cases hY; exact pg_name (i := 0) ndPT rfl (Or.inl rfl)) firsts_one (fun Y _ => pifs_nil) (fun Y hY => by cases hY; exact pe_op op_add_str (pe_callH hrt hr rfl pass0 (pa_cons (pv 0) pa_nil)) pe_str)))))), ?_⟩
  obtain ⟨ss, rfl, h2, h5, hs⟩ := isProg_shape hp
  obtain ⟨a, vs, rfl, ha, rs⟩ := rp.tup
  have ls := rs.len
  refine ⟨_, rfl, _, _, rfl, rp, hp, fun H1 s1 => ?_⟩
  refine ⟨rfl, _, rfl, a, rfl, ⟨_, SqT.of (s1 _ _ ha)⟩, ?_⟩
  refine comp_go (n := vs.length) (fun i ys H' => Same H H' ∧ ys = strsV ((ss.take i).map fun s => scriptText s ++ [10])) ⟨s1, rfl⟩ ?_ ?_
  · rintro i ys H2 hi ⟨s2, rfl⟩
    refine ⟨⟨_, _, SqT.of (s2 _ _ ha), List.getElem?_eq_getElem hi⟩, ?_, ?_⟩
    · rw [strsV_len, List.length_map, List.length_take, sizeLine_eq]; omega
    · rintro x _ ⟨rfl, hx⟩
      have hx' := hx vs (SqT.of (s2 _ _ ha))
      obtain ⟨p, hp', rp'⟩ := (s2.reps rs).get hx'
      have hi' : i < ss.length := by omega
      have e : ss[i] = p := by rw [List.getElem?_eq_getElem hi'] at hp'; exact Option.some.inj hp'
      have ok := hs i p hp'
      obtain ⟨rw', rfl⟩ : ∃ r, p = .tup r := by
        cases p with
        | tup r => exact ⟨r, rfl⟩
        | «at» z => exact ok.wf.elim
      have hl : (textRows rw').length ≤ 2400 := ok.len
      refine turn1 ?_
      refine ⟨_, rfl, rw', x, rfl, rp', ok.wf, by omega, fun H3 s3 => ⟨_, _, rfl, rfl, ?_, Wc.next hi ⟨s2.trans s3, ?_⟩⟩⟩
      · rw [sNl, len_S, len_S, sizeLine_eq]; simp; omega
      · rw [take_one hi', List.map_append, strsV_append, sNl, S_append, e]; rfl
  · rintro ys H2 ⟨s2, rfl⟩
    refine ⟨⟨_, SqT.of (s2 _ _ ha), Nat.le_refl _⟩, fun p hp => ?_⟩
    rw [List.take_of_length_le (by omega)]
    have s3 := s2.trans (same_new hp (.lst (strsV (ss.map fun s => scriptText s ++ [10]))))
    refine ⟨[], p, ss.map fun s => scriptText s ++ [10], by rw [sNil], rfl, SqL.of upd_same, ?_, ?_⟩
    · simp only [List.length_map, List.length_nil, Nat.mul_zero, Nat.add_zero]
      have bound : ∀ l : List PV, (∀ s ∈ l, (scriptText s).length ≤ 2400) → ((l.map fun s => scriptText s ++ [10]).map List.length).sum ≤ 2401 * l.length := by
        intro l
        induction l with
        | nil => intro _; simp
        | cons s r ih =>
          intro h
          have := ih fun s hs => h s (.tail _ hs)
          have h1 := h s (.head _)
          simp only [List.map_cons, List.sum_cons, List.length_append, List.length_cons, List.length_nil]
          omega
      have := bound ss fun s hs' => by
        obtain ⟨j, hj, e⟩ := List.getElem_of_mem hs'
        exact (hs j s (by rw [List.getElem?_eq_getElem hj, e])).len
      omega
    · have fin := q _ s3
      rw [joinT_flat]
      have e : textProg (.tup ss) = (ss.map fun s => scriptText s ++ [10]).flatten := by rw [← List.flatMap_def]; rfl
      rw [e] at fin; exact fin
/-! is_number_text -/
def digT : T := [48, 49, 50, 51, 52, 53, 54, 55, 56, 57]
theorem digits_S : ("0123456789" : Str) = S digT := by decide +kernel
theorem dig_contains (c : Nat) : digT.contains c = isDig c := by
  by_cases h : c < 128
  · have : ∀ c < 128, digT.contains c = isDig c := by decide +kernel
    exact this c h
  · have e1 : digT.contains c = false := by
      rw [List.contains_eq_mem, decide_eq_false_iff_not]
      intro hm
      have : ∀ x ∈ digT, x < 128 := by decide
      exact h (this c hm)
    rw [e1]
    unfold isDig
    rw [show decide (c ≤ 57) = false from decide_eq_false (by omega), Bool.and_false]
theorem cut_one (x : T) : cutT x (some 1) none = x.drop 1 := by
  unfold cutT
  have e := HT.sIx_nat x.length 0 1
  rw [show ((1 : Nat) : Int) = 1 from rfl] at e
  rw [e, HT.sIx_none]
  cases x with
  | nil => simp
  | cons c r => simp
theorem starts_yes (r : T) : Txt.startswith (S (45 :: r)) (S [45]) = true := by rw [starts_minus]; rfl
theorem starts_no {x : T} (h : ¬ ∃ r, x = 45 :: r) : Txt.startswith (S x) (S [45]) = false := by
  rw [starts_minus]
  split
  · rename_i r; exact absurd ⟨r, rfl⟩ h
  · rfl
theorem digs_no {x : T} (h : ¬ ∃ r, x = 45 :: r) : digs x = x := by
  unfold digs
  split
  · rename_i r; exact absurd ⟨r, rfl⟩ h
  · rfl
theorem sMinus : ("-" : Str) = S [45] := by decide +kernel
def spNT : Sp := fun vs H Q _ => ∃ x : T, vs = [.str (S x)] ∧ x.length ≤ 1000000 ∧ ∀ H', Same H H' → Q (.bl (isNumT x)) H'
theorem ndNT : (["sign", "word", "digits"] : List Str).Nodup := by decide +kernel
theorem scNText : FnScope ["word", "digits"] ["word"] (defScope sNText) := ⟨rfl, rfl, rfl, by decide +kernel, rfl, by decide +kernel, by decide +kernel⟩
theorem ok_ntext {f : Addr} {fd : FuncData} (F : Fun K "is_number_text" "is_number_text" sNText f fd) (T : Tx mg) : FnOk P w K mg base CX0 1 f fd ["word"] spNT := by
  refine F.ok scNText (fun vs H Q E h => ?_) (fun cdv A outer s H vs Q E hr h => ?_)
  · obtain ⟨x, rfl, _⟩ := h; rfl
  obtain ⟨x, rfl, hx, q⟩ := h
  obtain ⟨td, ed⟩ := T.digits
  obtain ⟨t7, e7⟩ := T.mdig
  refine ⟨_, (pss_cons (ps_set (i := 1) scNText.nd rfl (Or.inl rfl) (pe_ifExp (pt_val (pe_starts (pv 0) pe_str)) (pe_slice sl_str (pv 0) (po_some pe_int) po_none) (pv 0)))
    (pss_one (ps_ret (pe_and (pe_chain op_le op_le pe_int (pe_callB call_len_str rfl T.len PySem.boot_len (pa_cons (pv 1) pa_nil)) (pe_glob rfl e7 (v := .int 7) ⟨_, rfl⟩)) (pe_one (pe_callB (call_all rfl) rfl T.all boot_all (pa_cons (pe_comp (T := ["sign"]) (scopeIn_of (defScope sNText) ["word", "digits"] rfl rfl (by decide +kernel)) rfl (pi_str (pv 1)) (fun Y hY => by cases hY; exact pg_name (i := 0) ndNT rfl (Or.inl rfl)) firsts_one (fun Y _ => pifs_nil) (fun Y hY => by cases hY; exact pe_cmpR op_in_sign (pv 0) (pe_glob rfl ed (v := .str "0123456789") ⟨_, rfl⟩) rfl)) pa_nil))))))), ?_⟩
  refine ⟨_, rfl, rfl, S x, _, rfl, rfl, _, rfl, ?_⟩
  rw [sMinus]
  by_cases hm : ∃ r, x = 45 :: r
  · obtain ⟨r, rfl⟩ := hm
    rw [starts_yes]
    refine iteT ⟨_, rfl, 1, rfl, _, rfl, hx, ?_⟩
    rw [cut_one]
    rw [show List.drop 1 (45 :: r) = r from rfl]
    have hyl : (r).length ≤ 1000000 := (by simp at hx; omega)
    have hyd : r = digs (45 :: r) := rfl
    have hz : (S (r)).length ≤ sizeLine := by rw [len_S, sizeLine_eq]; omega
    have numE : isNumT (45 :: r) = (decide (1 ≤ (r).length) && decide ((r).length ≤ 7) && (r).all isDig) := by show (decide (1 ≤ (digs (45 :: r)).length) && decide ((digs (45 :: r)).length ≤ 7) && (digs (45 :: r)).all isDig) = _; rw [← hyd]
    refine ⟨_, rfl, S (r), rfl, hz, _, _, rfl, rfl, _, rfl, ?_⟩
    rw [len_S]
    refine ite2 (fun c1 => ⟨_, _, rfl, rfl, _, rfl, ite2 (fun c2 => ?_) (fun c2 => ?_)⟩) (fun c1 => ⟨_, rfl, iteF ?_⟩)
    · have h1 : (1 : Int) ≤ (r).length := by simpa using c1
      have h3 : ((r).length : Int) ≤ 7 := by simpa using c2
      refine ⟨_, rfl, r, rfl, comp_go (n := (r).length) (fun i ys H' => H' = H ∧ ys = (((r).take i).map fun c => digT.contains c).map V.bl) ⟨rfl, by simp⟩ ?_ ?_⟩
      · rintro i ys _ hi ⟨rfl, rfl⟩
        refine ⟨hi, ?_, ?_⟩
        · simp only [List.length_map, List.length_take]; exact Nat.lt_of_le_of_lt (Nat.min_le_left _ _) (Nat.lt_of_lt_of_le hi (by rw [sizeLine_eq]; omega))
        · rintro y _ ⟨rfl, rfl⟩
          refine turn1 ?_
          refine ⟨_, rfl, _, digT, rfl, by rw [digits_S], Wc.next hi ⟨rfl, ?_⟩⟩
          rw [take_one hi, List.map_append, List.map_append, getD_at hi]; rfl
      · rintro ys _ ⟨rfl, rfl⟩
        refine ⟨rfl, fun p hp => ⟨p, ((r).take (r).length).map fun c => digT.contains c, rfl, SqL.of upd_same, ?_⟩⟩
        have fin := q _ (same_new hp (.lst ((((r).take (r).length).map fun c => digT.contains c).map V.bl)))
        have e : isNumT (45 :: r) = (((r).take (r).length).map fun c => digT.contains c).all id := by
          rw [numE, show decide (1 ≤ (r).length) = true from decide_eq_true (by omega), show decide ((r).length ≤ 7) = true from decide_eq_true (by omega), List.take_length]
          simp only [Bool.and_self, Bool.true_and, List.all_map]
          congr 1
          funext c
          exact (dig_contains c).symm
        rw [e] at fin; exact fin
    · have h3 : ¬ ((r).length : Int) ≤ 7 := by simpa using c2
      have fin := q H (Same.refl H)
      rw [numE, show decide ((r).length ≤ 7) = false from decide_eq_false (by omega), Bool.and_false, Bool.false_and] at fin; exact fin
    · have h1 : ¬ (1 : Int) ≤ (r).length := by simpa using c1
      have fin := q H (Same.refl H)
      rw [numE, show decide (1 ≤ (r).length) = false from decide_eq_false (by omega), Bool.false_and, Bool.false_and] at fin; exact fin
  · rw [starts_no hm]
    refine iteF ⟨_, rfl, ?_⟩
    have hyl : (x).length ≤ 1000000 := hx
    have hyd : x = digs x := (digs_no hm).symm
    have hz : (S (x)).length ≤ sizeLine := by rw [len_S, sizeLine_eq]; omega
    have numE : isNumT x = (decide (1 ≤ (x).length) && decide ((x).length ≤ 7) && (x).all isDig) := by show (decide (1 ≤ (digs x).length) && decide ((digs x).length ≤ 7) && (digs x).all isDig) = _; rw [← hyd]
    refine ⟨_, rfl, S (x), rfl, hz, _, _, rfl, rfl, _, rfl, ?_⟩
    rw [len_S]
    refine ite2 (fun c1 => ⟨_, _, rfl, rfl, _, rfl, ite2 (fun c2 => ?_) (fun c2 => ?_)⟩) (fun c1 => ⟨_, rfl, iteF ?_⟩)
    · have h1 : (1 : Int) ≤ (x).length := by simpa using c1
      have h3 : ((x).length : Int) ≤ 7 := by simpa using c2
      refine ⟨_, rfl, x, rfl, comp_go (n := (x).length) (fun i ys H' => H' = H ∧ ys = (((x).take i).map fun c => digT.contains c).map V.bl) ⟨rfl, by simp⟩ ?_ ?_⟩
      · rintro i ys _ hi ⟨rfl, rfl⟩
        refine ⟨hi, ?_, ?_⟩
        · simp only [List.length_map, List.length_take]; exact Nat.lt_of_le_of_lt (Nat.min_le_left _ _) (Nat.lt_of_lt_of_le hi (by rw [sizeLine_eq]; omega))
        · rintro y _ ⟨rfl, rfl⟩
          refine turn1 ?_
          refine ⟨_, rfl, _, digT, rfl, by rw [digits_S], Wc.next hi ⟨rfl, ?_⟩⟩
          rw [take_one hi, List.map_append, List.map_append, getD_at hi]; rfl
      · rintro ys _ ⟨rfl, rfl⟩
        refine ⟨rfl, fun p hp => ⟨p, ((x).take (x).length).map fun c => digT.contains c, rfl, SqL.of upd_same, ?_⟩⟩
        have fin := q _ (same_new hp (.lst ((((x).take (x).length).map fun c => digT.contains c).map V.bl)))
        have e : isNumT x = (((x).take (x).length).map fun c => digT.contains c).all id := by
          rw [numE, show decide (1 ≤ (x).length) = true from decide_eq_true (by omega), show decide ((x).length ≤ 7) = true from decide_eq_true (by omega), List.take_length]
          simp only [Bool.and_self, Bool.true_and, List.all_map]
          congr 1
          funext c
          exact (dig_contains c).symm
        rw [e] at fin; exact fin
    · have h3 : ¬ ((x).length : Int) ≤ 7 := by simpa using c2
      have fin := q H (Same.refl H)
      rw [numE, show decide ((x).length ≤ 7) = false from decide_eq_false (by omega), Bool.and_false, Bool.false_and] at fin; exact fin
    · have h1 : ¬ (1 : Int) ≤ (x).length := by simpa using c1
      have fin := q H (Same.refl H)
      rw [numE, show decide (1 ≤ (x).length) = false from decide_eq_false (by omega), Bool.false_and, Bool.false_and] at fin; exact fin
end
end W2

-- D8
set_option linter.all false
set_option maxRecDepth 100000
set_option maxHeartbeats 0
/-! next_kind, read_word, with_last -/
namespace W2
open PySem PySem.Spec PyProof.Rows K2 L2
section
variable {P : Program} {w : World} {K : PySem.W.Frag} {mg : Str → Option Value} {base : Heap}
def spNK : Sp := fun vs H Q _ => ∃ l ws its, vs = [.ref l] ∧ H l = some (.lst ws) ∧ Reps H its ws ∧ ∀ H', Same H H' → Q (kindV (nextKind its)) H'
theorem scNext : FnScope ["row", "form", "place"] ["row"] (defScope sNext) := ⟨rfl, rfl, rfl, by decide +kernel, rfl, by decide +kernel, by decide +kernel⟩
theorem ok_next {f : Addr} {fd : FuncData} (F : Fun K "next_kind" "next_kind" sNext f fd) (T : Tx mg) (C : Forms P w K mg) : FnOk P w K mg base CX0 1 f fd ["row"] spNK := by
  refine F.ok scNext (fun vs H Q E h => ?_) (fun cdv A outer s H vs Q E hr h => ?_)
  · obtain ⟨l, ws, its, rfl, _⟩ := h; rfl
  obtain ⟨l, ws, its, rfl, hl, rs, q⟩ := h
  obtain ⟨a, kvs, ma, D, fsome, fnone⟩ := C.ex
  refine ⟨_, (pss_cons (ps_if (PW.pt (pw_or (pt_cmpR op_eq (pe_callB call_len_seq rfl T.len PySem.boot_len (pa_cons (pv 0) pa_nil)) pe_int (nomark _)) (pw_or1 (pt_not (pt_val (pe_callB call_isi rfl T.isi boot_isinstance (pa_cons (pe_ix ix_list (pv 0) pe_int (fun _ _ => rfl)) (pa_cons (pe_bltn rfl T.str boot_str (v := .ty "str") rfl) pa_nil)))))))) (pss_one (ps_ret pe_non)) pss_nil)
    (pss_cons (ps_set (i := 1) scNext.nd rfl (Or.inl rfl) (pe_bmG (kd_type D) PySem.F.plainAttrs_dict PySem.F.slot_dict_get PySem.F.type_dict_get (mt_kget D) (pe_glob rfl ma (v := .ref a) rfl) (pa_cons (pe_ix ix_list (pv 0) pe_int (fun _ _ => rfl)) (pa_cons (pe_tup pa_nil) pa_nil))))
    (pss_cons (ps_set (i := 2) scNext.nd rfl (Or.inl rfl) (pe_op op_sub (pe_callB call_len_seq rfl T.len PySem.boot_len (pa_cons (pv 0) pa_nil)) pe_int))
    (pss_one (ps_ret (pe_ifExp (pt_cmpR op_lt (pv 2) (pe_callB call_len_seq rfl T.len PySem.boot_len (pa_cons (pv 1) pa_nil)) (nomark _)) (pe_ix ix_tup (pv 1) (pv 2) (fun _ _ => rfl)) pe_non)))))), ?_⟩
  have no : nextKind its = none → Q .non H := fun e => by have fin := q H (Same.refl H); rw [e] at fin; exact fin
  refine ⟨_, rfl, l, _, rfl, .inl (SqL.of hl), rfl, _, rfl, ?_⟩
  cases its with
  | nil =>
    cases (show ws = [] from by simpa only [Reps] using rs)
    exact ite2 (fun _ => iteT (no rfl)) (fun c => absurd rfl c)
  | cons p0 pr =>
    obtain ⟨w0, wr, rfl, r0, rr⟩ := (show ∃ v r, ws = v :: r ∧ Rep H p0 v ∧ Reps H pr r from by simpa only [Reps] using rs)
    have lr := rr.len
    refine ite2 (fun c => ?_) (fun _ => ?_)
    · have z := of_decide_eq_true c
      injection z with z
      rw [List.length_cons] at z
      omega
    have at0 : atI (w0 :: wr) 0 = some w0 := atI_nat (j := 0) rfl
    obtain ⟨t0, ty0, c0⟩ := r0.ty (K := K)
    rcases c0 with ⟨qs, rfl, rfl⟩ | ⟨i, rfl, rfl⟩ | ⟨x, rfl, rfl⟩ | ⟨rfl, rfl⟩
    · exact ⟨_, rfl, l, _, 0, w0, rfl, rfl, SqL.of hl, at0, _, _, _, _, _, rfl, ty0, fun u z => z, k_tuple_str, _, rfl, iteT (no rfl)⟩
    · exact ⟨_, rfl, l, _, 0, w0, rfl, rfl, SqL.of hl, at0, _, _, _, _, _, rfl, ty0, fun u z => z, k_int_str, _, rfl, iteT (no rfl)⟩
    rotate_left
    · exact ⟨_, rfl, l, _, 0, w0, rfl, rfl, SqL.of hl, at0, _, _, _, _, _, rfl, ty0, fun u z => z, k_none_str, _, rfl, iteT (no rfl)⟩
    obtain ⟨e0, hx⟩ := (show w0 = .str (S x) ∧ x.length ≤ 1000000 from r0)
    subst e0
    refine ⟨_, rfl, l, _, 0, _, rfl, rfl, SqL.of hl, at0, _, _, _, _, _, rfl, ty0, fun u z => z, k_same _, _, rfl, iteF ?_⟩
    refine ⟨rfl, _, rfl, l, _, 0, _, rfl, rfl, SqL.of hl, at0, (by show 0 ≤ sizeLine; decide), fun t ht => ⟨rfl, S x, .inr ⟨.ref t, rfl, ?_⟩⟩⟩
    have s1 : Same H (upd H t (.tup [])) := same_new ht _
    have e1 : (((V.str (S x) :: wr).length : Nat) : Int) - 1 = (wr.length : Int) := by simp
    refine ⟨_, rfl, l, _, rfl, .inl (SqL.of (s1 _ _ hl)), _, _, rfl, rfl, ?_⟩
    have fin := q _ s1
    have ek : nextKind (.at (.str x) :: pr) = ((form x).getD [])[pr.length]? := rfl
    rw [ek] at fin
    cases hfm : form x with
    | none =>
      rw [fnone x hfm]
      rw [hfm] at fin
      refine ⟨_, rfl, _, rfl, t, _, rfl, .inr (SqT.of upd_same), _, _, rfl, rfl, _, rfl, ite2 (fun c => ?_) (fun _ => fin)⟩
      have z : (((V.str (S x) :: wr).length : Nat) : Int) - 1 < 0 := of_decide_eq_true c
      rw [e1] at z; omega
    | some ks =>
      obtain ⟨fa, e2, e3⟩ := fsome x ks hfm
      rw [e2]
      rw [hfm] at fin
      have lk : (kindsV ks).length = ks.length := by unfold kindsV; rw [List.length_map]
      refine ⟨_, rfl, _, rfl, fa, _, rfl, .inr (e3 _), _, _, rfl, rfl, _, rfl, ite2 (fun c => ?_) (fun c => ?_)⟩
      · have z : (((V.str (S x) :: wr).length : Nat) : Int) - 1 < ((kindsV ks).length : Int) := of_decide_eq_true c
        rw [e1, lk] at z
        have hi : pr.length < ks.length := by omega
        rw [Option.getD_some, List.getElem?_eq_getElem hi] at fin
        refine ⟨_, rfl, _, rfl, fa, _, _, _, rfl, rfl, e3 _, ?_, fin⟩
        show atI (kindsV ks) ((((V.str (S x) :: wr).length : Nat) : Int) - 1) = some (kindV (some ks[pr.length]))
        rw [e1]
        refine atI_nat ?_
        rw [← lr]
        simp [kindsV, List.getElem?_eq_getElem hi, kindV]
      · have z : ¬ (((V.str (S x) :: wr).length : Nat) : Int) - 1 < ((kindsV ks).length : Int) := fun z => c (decide_eq_true z)
        rw [e1, lk] at z
        rw [Option.getD_some, List.getElem?_eq_none (by omega)] at fin
        exact fin
/-! read_word -/
def spRW : Sp := fun vs H Q _ => ∃ (x : K2.T) (l : Addr) (ws : List V) (its : List PV), vs = [.str (S x), .ref l] ∧ x.length ≤ 1000000 ∧ H l = some (.lst ws) ∧ Reps H its ws ∧ ∀ H' v, Same H H' → Rep H' (.at (readWord x its)) v → Q v H'
theorem scRWord : FnScope ["word", "row"] ["word", "row"] (defScope sRWord) := ⟨rfl, rfl, rfl, by decide +kernel, rfl, by decide +kernel, by decide +kernel⟩
theorem ok_rword {f : Addr} {fd : FuncData} (F : Fun K "read_word" "read_word" sRWord f fd) (T : Tx mg) (hany : Has P w K mg base CX0 1 "may_be_any" ["kind"] spAny) (hnext : Has P w K mg base CX0 1 "next_kind" ["row"] spNK) (hnum : Has P w K mg base CX0 1 "is_number_text" ["word"] spNT) :
    FnOk P w K mg base CX0 2 f fd ["word", "row"] spRW := by
  refine F.ok scRWord (fun vs H Q E h => ?_) (fun cdv A outer s H vs Q E hr h => ?_)
  · obtain ⟨x, l, ws, its, rfl, _⟩ := h; rfl
  obtain ⟨x, l, ws, its, rfl, hx, hl, rs, q⟩ := h
  refine ⟨_, (pss_cons (ps_if (PW.pt (pw_and (pt_cmpR op_eq (pv 0) pe_str (nomark _)) (pw_and1 (pt_val (pe_callH hany hr rfl pass0 (pa_cons (pe_callH hnext hr rfl pass0 (pa_cons (pv 1) pa_nil)) pa_nil)))))) (pss_one (ps_ret pe_non)) pss_nil)
    (pss_cons (ps_if (pt_val (pe_callH hnum hr rfl pass0 (pa_cons (pv 0) pa_nil))) (pss_one (ps_ret (pe_callTy call_int_text rfl T.int boot_int (pa_cons (pv 0) pa_nil)))) pss_nil)
    (pss_one (ps_ret (pv 0))))), ?_⟩
  have rest : ∀ H1, Same H H1 → ¬ (x = wAny ∧ mayAny (nextKind its) = true) → ∀ H2, Same H1 H2 → (isNumT x = true → Q (.int (intOf x)) H2) ∧ (isNumT x = false → Q (.str (S x)) H2) := fun H1 s1 hn H2 s2 => by
    refine ⟨fun hc => q H2 _ (s1.trans s2) ?_, fun hc => q H2 _ (s1.trans s2) ?_⟩
    · unfold readWord; rw [if_neg hn, if_pos hc]; rfl
    · unfold readWord; rw [if_neg hn, if_neg (by rw [hc]; decide)]; exact ⟨rfl, hx⟩
  refine ⟨_, rfl, rfl, _, rfl, ite2 (fun c => ?_) (fun c => ?_)⟩
  · have ex : x = wAny := by
      have z := of_decide_eq_true c
      injection z with z
      exact S_inj (z.trans sAnyW)
    refine ⟨_, rfl, l, ws, its, rfl, hl, rs, fun H1 s1 => ⟨nextKind its, rfl, fun H2 s2 => ⟨_, rfl, ite2 (fun c2 => ?_) (fun c2 => ?_)⟩⟩⟩
    · refine q H2 _ (s1.trans s2) ?_
      unfold readWord; rw [if_pos ⟨ex, c2⟩]; rfl
    · refine ⟨_, rfl, x, rfl, hx, fun H3 s3 => ⟨_, rfl, ite2 (fun c3 => ⟨_, rfl, x, rfl, c3, ?_⟩) (fun c3 => ⟨_, rfl, ?_⟩)⟩⟩
      · exact (rest H2 (s1.trans s2) (fun z => c2 z.2) H3 s3).1 c3
      · exact (rest H2 (s1.trans s2) (fun z => c2 z.2) H3 s3).2 (Bool.eq_false_iff.mpr c3)
  · have hn : ¬ (x = wAny ∧ mayAny (nextKind its) = true) := fun z => c (by rw [sAnyW, z.1]; exact decide_eq_true rfl)
    refine iteF ⟨_, rfl, x, rfl, hx, fun H3 s3 => ⟨_, rfl, ite2 (fun c3 => ⟨_, rfl, x, rfl, c3, ?_⟩) (fun c3 => ⟨_, rfl, ?_⟩)⟩⟩
    · exact (rest H (Same.refl H) hn H3 s3).1 c3
    · exact (rest H (Same.refl H) hn H3 s3).2 (Bool.eq_false_iff.mpr c3)
/-! with_last -/
def spWL : Sp := fun vs H Q _ => ∃ r l rws ws rs its, vs = [.ref r, .ref l] ∧ H r = some (.lst rws) ∧ H l = some (.lst ws) ∧ Reps H rs rws ∧ Reps H its ws ∧ rws.length ≤ 1000000 ∧ ∀ H' v, Same H H' → Rep H' (.tup (withLast rs its)) v → Q v H'
theorem scWith : FnScope ["rows", "row"] ["rows", "row"] (defScope sWith) := ⟨rfl, rfl, rfl, by decide +kernel, rfl, by decide +kernel, by decide +kernel⟩
theorem ok_with {f : Addr} {fd : FuncData} (F : Fun K "with_last" "with_last" sWith f fd) (T : Tx mg) : FnOk P w K mg base CX0 1 f fd ["rows", "row"] spWL := by
  refine F.ok scWith (fun vs H Q E h => ?_) (fun cdv A outer s H vs Q E hr h => ?_)
  · obtain ⟨r, l, rws, ws, rs, its, rfl, _⟩ := h; rfl
  obtain ⟨r, l, rws, ws, rs, its, rfl, hrr, hl, rr, rl, hz, q⟩ := h
  refine ⟨_, (pss_cons (ps_if (pt_cmpR op_gt (pe_callB call_len_seq rfl T.len PySem.boot_len (pa_cons (pv 1) pa_nil)) pe_int (nomark _)) (pss_one (ps_set (i := 0) scWith.nd rfl (Or.inl rfl) (pe_op op_cat (pv 0) (pe_lst (pa_cons (pe_callTy call_tuple_of rfl T.tuple boot_tuple (pa_cons (pv 1) pa_nil)) pa_nil))))) pss_nil)
    (pss_one (ps_ret (pe_callTy call_tuple_of rfl T.tuple boot_tuple (pa_cons (pv 0) pa_nil))))), ?_⟩
  have ll := rl.len
  refine ⟨_, rfl, l, _, rfl, .inl (SqL.of hl), _, _, rfl, rfl, _, rfl, ite2 (fun c => ?_) (fun c => ?_)⟩
  · have h0 : (0 : Int) < ws.length := of_decide_eq_true c
    refine ⟨_, rfl, _, rfl, l, _, rfl, .inl ⟨SqL.of hl, fun t ht => ?_⟩⟩
    have s1 : Same H (upd H t (.tup ws)) := same_new ht _
    refine ⟨(by show 1 ≤ sizeLine; decide), fun t2 ht2 => ?_⟩
    have s2 := same_new ht2 (.lst [.ref t])
    refine ⟨r, t2, _, _, rfl, rfl, s2 _ _ (s1 _ _ hrr), upd_same, by simp; rw [sizeLine_eq]; omega, fun t3 ht3 => ?_⟩
    have s3 := same_new ht3 (.lst (rws ++ [.ref t]))
    refine ⟨_, rfl, t3, _, rfl, .inl ⟨SqL.of upd_same, fun t4 ht4 => ?_⟩⟩
    have s4 := same_new ht4 (.tup (rws ++ [.ref t]))
    have s24 := s2.trans (s3.trans s4)
    refine q _ _ (s1.trans s24) ?_
    have e : withLast rs its = rs ++ [.tup its] := by
      unfold withLast
      cases its with
      | nil => simp at ll; omega
      | cons => rfl
    rw [e]
    exact Rep.mk upd_same (((s1.trans s24).reps rr).append (Reps.one (Rep.mk (s24 _ _ upd_same) ((s1.trans s24).reps rl))))
  · have h0 : ¬ (0 : Int) < ws.length := fun z => c (decide_eq_true z)
    refine ⟨_, rfl, r, _, rfl, .inl ⟨SqL.of hrr, fun t ht => ?_⟩⟩
    have s1 := same_new ht (.tup rws)
    refine q _ _ s1 ?_
    have e : withLast rs its = rs := by
      unfold withLast
      cases its with
      | nil => rfl
      | cons => simp at ll; omega
    rw [e]
    exact Rep.mk upd_same (s1.reps rr)
end
end W2

-- D9
set_option linter.all false
set_option maxRecDepth 100000
set_option maxHeartbeats 0
/-! read_line -/
namespace W2
open PySem PySem.Spec PyProof.Rows K2 L2
section
variable {P : Program} {w : World} {K : PySem.W.Frag} {mg : Str → Option Value} {base : Heap}
def spSW : Sp := fun vs H Q _ => ∃ x : K2.T, vs = [.str (S x)] ∧ x.length ≤ 100000 ∧ ∀ H' p, Same H H' → H p = none → H' p = some (.lst (strsV (tok x))) → Q (.ref p) H'
structure Fr3 (H : Hp) (n : Nat) (ri li : Addr) (rs its : List PV) : Prop where
  ex : ∃ rws ws, H ri = some (.lst rws) ∧ H li = some (.lst ws) ∧ Reps H rs rws ∧ Reps H its ws ∧ rws.length ≤ n ∧ ws.length ≤ n
theorem Fr3.mono {H H' : Hp} {n n' : Nat} {ri li : Addr} {rs its : List PV} (f : Fr3 H n ri li rs its) (t : Tups H H') (k1 : ∀ o, H ri = some o → H' ri = some o) (k2 : ∀ o, H li = some o → H' li = some o) (hn : n ≤ n') : Fr3 H' n' ri li rs its := by
  obtain ⟨rws, ws, h1, h2, h3, h4, h5, h6⟩ := f.ex
  exact ⟨rws, ws, k1 _ h1, k2 _ h2, t.reps h3, t.reps h4, by omega, by omega⟩
def addrs (fs : List (Addr × Addr × Addr)) : List Addr := fs.flatMap fun z => [z.2.1, z.2.2]
inductive Stk (H : Hp) (n : Nat) : List (Addr × Addr × Addr) → List (List PV × List PV) → Prop
  | nil : Stk H n [] []
  | cons {t ri li : Addr} {rs its : List PV} {fs : List (Addr × Addr × Addr)} {ar : List (List PV × List PV)} (h : H t = some (.tup [.ref ri, .ref li])) (f : Fr3 H n ri li rs its) (r : Stk H n fs ar) : Stk H n ((t, ri, li) :: fs) ((rs, its) :: ar)
theorem Stk.mono {H H' : Hp} {n n' : Nat} (t : Tups H H') (hn : n ≤ n') : ∀ {fs : List (Addr × Addr × Addr)} {ar : List (List PV × List PV)}, Stk H n fs ar → (∀ b ∈ addrs fs, ∀ o, H b = some o → H' b = some o) → Stk H' n' fs ar
  | _, _, .nil, _ => .nil
  | _, _, .cons h f r, k => .cons (t _ _ h) (f.mono t (k _ (by simp [addrs])) (k _ (by simp [addrs])) hn) (r.mono t hn fun b hb => k b (by simp [addrs] at hb ⊢; exact .inr (.inr hb)))
structure RL (H0 : Hp) (lv : V) (p : Addr) (xs : List V) (n : Nat) (ms : MS) (σ : L2.St) (H : Hp) : Prop where
  ex : ∃ ar r l fs w5 w6, σ = [some lv, some (.ref ar), some (.ref r), some (.ref l), w5, w6] ∧ Same H0 H ∧ H p = some (.lst xs) ∧ H ar = some (.lst (fs.reverse.map fun (z : Addr × Addr × Addr) => V.ref z.1)) ∧ Fr3 H n r l ms.rows ms.row ∧ Stk H n fs ms.around ∧
    (p :: ar :: r :: l :: addrs fs).Nodup ∧ (∀ b ∈ p :: ar :: r :: l :: addrs fs, H0 b = none ∧ ∃ ys, H b = some (.lst ys)) ∧ fs.length ≤ n
def spRL (CB : Addr) : Sp := fun vs H Q E => ∃ x : K2.T, vs = [.str (S x)] ∧ x.length ≤ 100000 ∧ (∀ rs, readLine x = some rs → ∀ H' v, Same H H' → Rep H' (.tup rs) v → Q v H') ∧ (readLine x = none → ∀ H', Same H H' → E (.ref CB) none H')
theorem scLine : FnScope ["line", "around", "rows", "row", "word", "within"] ["line"] (defScope sLine) := ⟨rfl, rfl, rfl, by decide +kernel, rfl, by decide +kernel, by decide +kernel⟩
theorem sSemi : (";" : Str) = S [59] := by decide +kernel
theorem ok_line {CB f : Addr} {fd : FuncData} (F : Fun K "read_line" "read_line" sLine f fd) (T : Tx mg) (mB : mg "BadText" = some (.ref CB)) (hxB : PySem.W.excIn K CB lkB "LookupError.__new__" = true)
    (hsplit : Has P w K mg base CX0 1 "split_words" ["line"] spSW) (hwl : Has P w K mg base CX0 1 "with_last" ["rows", "row"] spWL) (hrw : Has P w K mg base CX0 2 "read_word" ["word", "row"] spRW) :
    FnOk P w K mg base (CX1 P w) 3 f fd ["line"] (spRL CB) := by
  refine F.okX scLine (fun vs H Q E h => ?_) (fun cdv A outer s H vs Q E hr h => ?_)
  · obtain ⟨x, rfl, _⟩ := h; rfl
  obtain ⟨x, rfl, hx, qs, qn⟩ := h
  refine ⟨_, (pss_cons (ps_set (i := 1) scLine.nd rfl (Or.inl rfl) (pe_lst pa_nil))
    (pss_cons (ps_set (i := 2) scLine.nd rfl (Or.inl rfl) (pe_lst pa_nil))
    (pss_cons (ps_set (i := 3) scLine.nd rfl (Or.inl rfl) (pe_lst pa_nil))
    (pss_cons (PS.ok fun ok => ps_for (passOwnW ok rfl rfl) rfl (pi_list (pe_callH hsplit hr rfl pass0 (pa_cons (pv 0) pa_nil))) (pg_name (i := 4) scLine.nd rfl (Or.inl rfl)) (pss_one (ps_if (pt_cmpR op_eq (pv 4) pe_str (nomark _)) (pss_cons (ps_expr (pe_append (pv 1) (pe_tup (pa_cons (pv 2) (pa_cons (pv 3) pa_nil)))))
    (pss_cons (ps_set (i := 2) scLine.nd rfl (Or.inl rfl) (pe_lst pa_nil))
    (pss_one (ps_set (i := 3) scLine.nd rfl (Or.inl rfl) (pe_lst pa_nil))))) (pss_one (ps_if (pt_cmpR op_eq (pv 4) pe_str (nomark _)) (pss_cons (ps_if (pt_cmpR op_eq (pe_callB call_len_seq rfl T.len PySem.boot_len (pa_cons (pv 1) pa_nil)) pe_int (nomark _)) (pss_one (ps_raise rfl rfl mB hxB (pa_cons pe_str pa_nil))) pss_nil)
    (pss_cons (ps_set (i := 5) scLine.nd rfl (Or.inl rfl) (pe_callH hwl hr rfl pass0 (pa_cons (pv 2) (pa_cons (pv 3) pa_nil))))
    (pss_cons (ps_asg (pe_pop (pv 1)) (pg_tup rfl (pgs_cons (pg_name (i := 2) scLine.nd rfl (Or.inl rfl)) (pgs_cons (pg_name (i := 3) scLine.nd rfl (Or.inl rfl)) pgs_nil))))
    (pss_one (ps_expr (pe_append (pv 3) (pv 5))))))) (pss_one (ps_if (pt_cmpR op_eq (pv 4) pe_str (nomark _)) (pss_cons (ps_expr (pe_append (pv 2) (pe_callTy call_tuple_of rfl T.tuple boot_tuple (pa_cons (pv 3) pa_nil))))
    (pss_one (ps_set (i := 3) scLine.nd rfl (Or.inl rfl) (pe_lst pa_nil)))) (pss_one (ps_expr (pe_append (pv 3) (pe_callH hrw hr rfl pass0 (pa_cons (pv 4) (pa_cons (pv 3) pa_nil)))))))))))))
    (pss_one (ps_ret (pe_callH hwl hr rfl pass0 (pa_cons (pv 2) (pa_cons (pv 3) pa_nil))))))))), ?_⟩
  have z0 : 0 ≤ sizeLine := by decide
  refine ⟨z0, fun ar har => ⟨z0, fun r hr1 => ⟨z0, fun l hl1 => ?_⟩⟩⟩
  have s1 : Same H (upd H ar (.lst [])) := same_new har _
  have s2 := same_new hr1 (.lst ([] : List V))
  have s3 := same_new hl1 (.lst ([] : List V))
  refine ⟨_, rfl, x, rfl, hx, fun H4 p s4 hp4 h4 => ⟨p, rfl, ⟨_, SqL.of h4⟩, ?_⟩⟩
  have lw := tok_len x
  refine for_list (xs := strsV (tok x)) (fun i σ' H' => ∃ ms, run ⟨[], [], []⟩ ((tok x).take i) = some ms ∧ RL H (.str (S x)) p (strsV (tok x)) i ms σ' H') ?_ ?_ ?_ ?_
  · have a1 : upd (upd (upd H ar (.lst [])) r (.lst [])) l (.lst []) ar = some (.lst []) := s3 _ _ (s2 _ _ upd_same)
    have a2 : upd (upd (upd H ar (.lst [])) r (.lst [])) l (.lst []) r = some (.lst []) := s3 _ _ upd_same
    have a3 : upd (upd (upd H ar (.lst [])) r (.lst [])) l (.lst []) l = some (.lst []) := upd_same
    refine ⟨_, rfl, ar, r, l, [], none, none, rfl, s1.trans (s2.trans (s3.trans s4)), h4, s4 _ _ a1, ⟨[], [], s4 _ _ a2, s4 _ _ a3, Reps.nil, Reps.nil, Nat.le_refl _, Nat.le_refl _⟩, .nil, ?_, ?_, Nat.le_refl _⟩
    · have n1 : p ≠ ar := (ne_of_none a1 hp4).symm
      have n2 : p ≠ r := (ne_of_none a2 hp4).symm
      have n3 : p ≠ l := (ne_of_none a3 hp4).symm
      have n4 : ar ≠ r := ne_of_none (upd_same (H := H)) hr1
      have n5 : ar ≠ l := ne_of_none (s2 _ _ upd_same) hl1
      have n6 : r ≠ l := ne_of_none upd_same hl1
      simp [addrs, n1, n2, n3, n4, n5, n6]
    · have f1 : H r = none := s1.free hr1
      have f2 : H l = none := s1.free (s2.free hl1)
      have f3 : H p = none := s1.free (s2.free (s3.free hp4))
      intro b hb
      simp [addrs] at hb
      rcases hb with rfl | rfl | rfl | rfl
      · exact ⟨f3, _, h4⟩
      · exact ⟨har, _, s4 _ _ a1⟩
      · exact ⟨f1, _, s4 _ _ a2⟩
      · exact ⟨f2, _, s4 _ _ a3⟩
  · rintro i σ' H' _ ⟨ms, _, ⟨_, _, _, _, _, _, _, _, hp, _⟩⟩; exact SqL.of hp
  · rintro i v σ' H' hv ⟨⟨mar, mrows, mrow⟩, hrun, ⟨ar, r, l, fs, w5, w6, rfl, sm, hp, har, fr, stk, nd, fresh, hlen⟩⟩
    dsimp only at fr stk
    have hi : i < (tok x).length := by rw [← strsV_len]; exact (List.getElem?_eq_some_iff.mp hv).1
    obtain ⟨wd, ewd, hwd⟩ : ∃ wd, (tok x)[i] = wd ∧ v = .str (S wd) := ⟨_, rfl, by
      unfold strsV at hv
      rw [List.getElem?_map, List.getElem?_eq_getElem hi] at hv
      exact (Option.some.inj hv).symm⟩
    subst hwd
    have hrun' := run_take hi hrun
    rw [ewd] at hrun'
    have lwd : wd.length ≤ 1000000 := by
      have := tok_mem (x := x) (w := wd) (by rw [← ewd]; exact List.getElem_mem hi)
      omega
    obtain ⟨rws, ws, hr, hl, rr, rl, lr, ll⟩ := fr.ex
    have small : ∀ {n : Nat}, n ≤ i → n < sizeLine := fun h => by rw [sizeLine_eq]; omega
    have dec : ∀ (c : Nat) (y : Str), y = S [c] → (decide (V.str (S wd) = V.str y) = true ↔ wd = [c]) := fun c y e => by
      subst e
      constructor
      · intro z; have z := of_decide_eq_true z; injection z with z; exact S_inj z
      · intro z; subst z; exact decide_eq_true rfl
    have nd' := nd
    simp only [List.nodup_cons, List.mem_cons, not_or] at nd'
    obtain ⟨⟨npa, npr, npl, npf⟩, ⟨nar, nal, naf⟩, ⟨nrl, nrf⟩, nlf, nff⟩ := nd'
    have frO : ∀ b ∈ p :: ar :: r :: l :: addrs fs, H b = none := fun b hb => (fresh b hb).1
    have inS : ∀ b ∈ p :: ar :: r :: l :: addrs fs, ∃ ys, H' b = some (.lst ys) := fun b hb => (fresh b hb).2
    refine ⟨_, rfl, rfl, _, rfl, ite2 (fun c => ?_) (fun c => ?_)⟩
    · -- an opening brace
      have ew : wd = [123] := (dec 123 _ sL).mp c
      subst ew
      refine ⟨_, rfl, .inl ⟨rfl, _, SqL.of har⟩, _, rfl, _, rfl, (by show 2 ≤ sizeLine; decide), fun t ht => ⟨ar, _, _, rfl, rfl, same_new ht _ _ _ har, ?_, ?_⟩⟩
      · rw [List.length_map, List.length_reverse]; exact small hlen
      have sa : Same H' (upd H' t (.tup [.ref r, .ref l])) := same_new ht _
      refine ⟨z0, fun r2 hr2 => ⟨z0, fun l2 hl2 => ?_⟩⟩
      have har_a := sa _ _ har
      have tb : Tups (upd H' t (.tup [.ref r, .ref l])) _ := tups_lst (o := .lst (List.map (fun (z : Addr × Addr × Addr) => V.ref z.1) fs.reverse ++ [.ref t])) har_a
      have sc := same_new hr2 (.lst ([] : List V))
      have sd := same_new hl2 (.lst ([] : List V))
      have scd := sc.trans sd
      have inHb : ∀ b ∈ p :: ar :: r :: l :: addrs fs, ∃ ys, upd (upd H' t (.tup [.ref r, .ref l])) ar (.lst (List.map (fun (z : Addr × Addr × Addr) => V.ref z.1) fs.reverse ++ [.ref t])) b = some (.lst ys) := fun b hb => by
        by_cases e : b = ar
        · subst e; exact ⟨_, upd_same⟩
        · obtain ⟨ys, e1⟩ := inS b hb
          exact ⟨ys, by rw [upd_ne e]; exact sa _ _ e1⟩
      have nr2 : ∀ b ∈ p :: ar :: r :: l :: addrs fs, b ≠ r2 := fun b hb => by obtain ⟨ys, e⟩ := inHb b hb; exact ne_of_none e hr2
      have nl2 : ∀ b ∈ p :: ar :: r :: l :: addrs fs, b ≠ l2 := fun b hb => by obtain ⟨ys, e⟩ := inHb b hb; exact ne_of_none (sc _ _ e) hl2
      have nrl2 : r2 ≠ l2 := ne_of_none upd_same hl2
      have keep : ∀ b o, b ≠ ar → H' b = some o → upd (upd (upd (upd H' t (.tup [.ref r, .ref l])) ar (.lst (List.map (fun (z : Addr × Addr × Addr) => V.ref z.1) fs.reverse ++ [.ref t]))) r2 (.lst [])) l2 (.lst []) b = some o := fun b o hb e => scd _ _ (by rw [upd_ne hb]; exact sa _ _ e)
      have tall := sa.tups.trans (tb.trans scd.tups)
      have smd := (same_old (o := .lst (List.map (fun (z : Addr × Addr × Addr) => V.ref z.1) fs.reverse ++ [.ref t])) (frO ar (by simp)) (sm.trans sa)).trans scd
      refine ⟨_, hrun', ar, r2, l2, (t, r, l) :: fs, _, _, rfl, smd, keep p _ npa hp, ?_, ⟨[], [], sd _ _ upd_same, upd_same, Reps.nil, Reps.nil, Nat.zero_le _, Nat.zero_le _⟩, ?_, ?_, ?_, by simp; exact hlen⟩
      · rw [List.reverse_cons, List.map_append]; exact scd _ _ upd_same
      · refine .cons (scd _ _ (tb _ _ upd_same)) (fr.mono tall (fun o e => keep r o (Ne.symm nar) e) (fun o e => keep l o (Ne.symm nal) e) (Nat.le_succ _)) (stk.mono tall (Nat.le_succ _) fun b hb o e => keep b o (fun z => naf (z ▸ hb)) e)
      · show (p :: ar :: r2 :: l2 :: r :: l :: addrs fs).Nodup
        simp only [List.nodup_cons, List.mem_cons, not_or]
        exact ⟨⟨npa, nr2 p (by simp), nl2 p (by simp), npr, npl, npf⟩, ⟨nr2 ar (by simp), nl2 ar (by simp), nar, nal, naf⟩, ⟨nrl2, (nr2 r (by simp)).symm, (nr2 l (by simp)).symm, fun z => nr2 r2 (by simp [z]) rfl⟩,
          ⟨(nl2 r (by simp)).symm, (nl2 l (by simp)).symm, fun z => nl2 l2 (by simp [z]) rfl⟩, ⟨nrl, nrf⟩, nlf, nff⟩
      · intro b hb
        have hb : b = r2 ∨ b = l2 ∨ b ∈ p :: ar :: r :: l :: addrs fs := by
          have hb : b ∈ p :: ar :: r2 :: l2 :: r :: l :: addrs fs := hb
          simp only [List.mem_cons] at hb ⊢
          rcases hb with h | h | h | h | h | h | h
          · exact .inr (.inr (.inl h))
          · exact .inr (.inr (.inr (.inl h)))
          · exact .inl h
          · exact .inr (.inl h)
          · exact .inr (.inr (.inr (.inr (.inl h))))
          · exact .inr (.inr (.inr (.inr (.inr (.inl h)))))
          · exact .inr (.inr (.inr (.inr (.inr (.inr h)))))
        rcases hb with rfl | rfl | hb
        · exact ⟨(same_old (o := .lst (List.map (fun (z : Addr × Addr × Addr) => V.ref z.1) fs.reverse ++ [.ref t])) (frO ar (by simp)) (sm.trans sa)).free hr2, _, sd _ _ upd_same⟩
        · exact ⟨(same_old (o := .lst (List.map (fun (z : Addr × Addr × Addr) => V.ref z.1) fs.reverse ++ [.ref t])) (frO ar (by simp)) (sm.trans sa)).free (sc.free hl2), _, upd_same⟩
        · obtain ⟨ys, e⟩ := inHb b hb
          exact ⟨frO b hb, ys, scd _ _ e⟩
    have n123 : wd ≠ [123] := fun z => c ((dec 123 _ sL).mpr z)
    refine ⟨_, rfl, rfl, _, rfl, ite2 (fun c => ?_) (fun c => ?_)⟩
    · -- a closing one
      have ew : wd = [125] := (dec 125 _ sR).mp c
      subst ew
      refine ⟨_, rfl, ar, _, rfl, .inl (SqL.of har), rfl, _, rfl, ?_⟩
      cases stk with
      | nil =>
        have hst : run ⟨[], [], []⟩ ((tok x).take (i + 1)) = none := hrun'
        refine ite2 (fun _ => ⟨(by show 1 ≤ sizeLine; decide), qn ?_ _ sm⟩) (fun c => absurd rfl c)
        unfold readLine
        rw [run_none hst]; rfl
      | @cons t r0 l0 rs0 its0 fs' mar' ht f0 stk' =>
        have hst : run ⟨[], [], []⟩ ((tok x).take (i + 1)) = some ⟨mar', rs0, its0 ++ [.tup (withLast mrows mrow)]⟩ := hrun'
        refine ite2 (fun c => ?_) (fun _ => ?_)
        · have z := of_decide_eq_true c
          injection z with z
          simp at z
          omega
        refine ⟨_, rfl, _, rfl, r, l, rws, ws, mrows, mrow, rfl, hr, hl, rr, rl, by omega, fun H1 v s1 rv => ?_⟩
        rw [List.reverse_cons, List.map_append] at har
        have har1 := s1 _ _ har
        obtain ⟨rws0, ws0, hr0, hl0, rr0, rl0, lr0, ll0⟩ := f0.ex
        have mem_r0 : r0 ∈ p :: ar :: r :: l :: addrs ((t, r0, l0) :: fs') := by simp [addrs]
        have mem_l0 : l0 ∈ p :: ar :: r :: l :: addrs ((t, r0, l0) :: fs') := by simp [addrs]
        have ad : addrs ((t, r0, l0) :: fs') = r0 :: l0 :: addrs fs' := rfl
        rw [ad] at npf naf nrf nlf nff
        simp only [List.mem_cons, not_or, List.nodup_cons] at npf naf nrf nlf nff
        refine ⟨_, rfl, .inl ⟨rfl, _, SqL.of har1⟩, ar, _, .ref t, rfl, rfl, har1, (by simp), t, [.ref r0, .ref l0], rfl, SqT.of ?_, rfl, _, _, rfl, _, _, rfl, rfl, ?_⟩
        · rw [upd_ne (ne_of (s1 _ _ ht) har1 (by intro z; cases z))]; exact s1 _ _ ht
        have edl : (List.map (fun (z : Addr × Addr × Addr) => V.ref z.1) fs'.reverse ++ List.map (fun (z : Addr × Addr × Addr) => V.ref z.1) [(t, r0, l0)]).dropLast = List.map (fun (z : Addr × Addr × Addr) => V.ref z.1) fs'.reverse := List.dropLast_concat
        rw [edl]
        have t2 : Tups H1 (upd H1 ar (.lst (List.map (fun (z : Addr × Addr × Addr) => V.ref z.1) fs'.reverse))) := tups_lst har1
        have k2 : ∀ b o, b ≠ ar → H' b = some o → upd H1 ar (.lst (List.map (fun (z : Addr × Addr × Addr) => V.ref z.1) fs'.reverse)) b = some o := fun b o hb e => by rw [upd_ne hb]; exact s1 _ _ e
        have hl2 := k2 l0 _ (Ne.symm naf.2.1) hl0
        refine ⟨_, rfl, .inl ⟨rfl, _, SqL.of hl2⟩, _, rfl, l0, ws0, v, rfl, rfl, hl2, small ll0, ?_⟩
        have t3 : Tups _ (upd (upd H1 ar (.lst (List.map (fun (z : Addr × Addr × Addr) => V.ref z.1) fs'.reverse))) l0 (.lst (ws0 ++ [v]))) := tups_lst hl2
        have k3 : ∀ b o, b ≠ ar → b ≠ l0 → H' b = some o → upd (upd H1 ar (.lst (List.map (fun (z : Addr × Addr × Addr) => V.ref z.1) fs'.reverse))) l0 (.lst (ws0 ++ [v])) b = some o := fun b o hb hb2 e => by rw [upd_ne hb2]; exact k2 b o hb e
        have tall := s1.tups.trans (t2.trans t3)
        have sm3 := same_old (o := .lst (ws0 ++ [v])) (frO l0 mem_l0) (same_old (o := .lst (List.map (fun (z : Addr × Addr × Addr) => V.ref z.1) fs'.reverse)) (frO ar (by simp)) (sm.trans s1))
        refine ⟨_, hst, ar, r0, l0, fs', _, _, rfl, sm3, k3 p _ npa npf.2.1 hp, ?_, ⟨rws0, ws0 ++ [v], k3 r0 _ (Ne.symm naf.1) nff.1.1 hr0, upd_same, tall.reps rr0, (tall.reps rl0).append (Reps.one ((t2.trans t3).rep rv)), by omega, by simp; omega⟩, ?_, ?_, ?_, by simp at hlen; omega⟩
        · rw [upd_ne naf.2.1]; exact upd_same
        · exact stk'.mono tall (Nat.le_succ _) fun b hb o e => k3 b o (fun z => naf.2.2 (z ▸ hb)) (fun z => nff.2.1 (z ▸ hb)) e
        · simp only [List.nodup_cons, List.mem_cons, not_or]
          exact ⟨⟨npa, npf.1, npf.2.1, npf.2.2⟩, ⟨naf.1, naf.2.1, naf.2.2⟩, ⟨nff.1.1, nff.1.2⟩, nff.2.1, nff.2.2⟩
        · intro b hb
          have hb' : b ∈ p :: ar :: r :: l :: addrs ((t, r0, l0) :: fs') := by
            rw [ad]
            simp only [List.mem_cons] at hb ⊢
            rcases hb with h | h | h | h | h
            · exact .inl h
            · exact .inr (.inl h)
            · exact .inr (.inr (.inr (.inr (.inl h))))
            · exact .inr (.inr (.inr (.inr (.inr (.inl h)))))
            · exact .inr (.inr (.inr (.inr (.inr (.inr h)))))
          refine ⟨frO b hb', ?_⟩
          by_cases e : b = l0
          · subst e; exact ⟨_, upd_same⟩
          by_cases e2 : b = ar
          · subst e2; exact ⟨_, by rw [upd_ne e]; exact upd_same⟩
          obtain ⟨ys, e3⟩ := inS b hb'
          exact ⟨ys, k3 b _ e2 e e3⟩
    have n125 : wd ≠ [125] := fun z => c ((dec 125 _ sR).mpr z)
    refine ⟨_, rfl, rfl, _, rfl, ite2 (fun c => ?_) (fun c => ?_)⟩
    · -- a row's end
      have ew : wd = [59] := (dec 59 _ sSemi).mp c
      subst ew
      refine ⟨_, rfl, .inl ⟨rfl, _, SqL.of hr⟩, _, rfl, l, ws, rfl, .inl ⟨SqL.of hl, fun t ht => ⟨r, rws, _, rfl, rfl, same_new ht _ _ _ hr, small lr, ?_⟩⟩⟩
      have s1 : Same H' (upd H' t (.tup ws)) := same_new ht _
      have hr1 := s1 _ _ hr
      refine ⟨z0, fun l2 hl2 => ?_⟩
      have t2 : Tups (upd H' t (.tup ws)) (upd (upd H' t (.tup ws)) r (.lst (rws ++ [.ref t]))) := tups_lst hr1
      have s3 := same_new hl2 (.lst ([] : List V))
      have k3 : ∀ b o, b ≠ r → H' b = some o → upd (upd (upd H' t (.tup ws)) r (.lst (rws ++ [.ref t]))) l2 (.lst []) b = some o := fun b o hb e => s3 _ _ (by rw [upd_ne hb]; exact s1 _ _ e)
      have tall := s1.tups.trans (t2.trans s3.tups)
      have inHb : ∀ b ∈ p :: ar :: r :: l :: addrs fs, ∃ ys, upd (upd H' t (.tup ws)) r (.lst (rws ++ [.ref t])) b = some (.lst ys) := fun b hb => by
        by_cases e : b = r
        · subst e; exact ⟨_, upd_same⟩
        · obtain ⟨ys, e1⟩ := inS b hb
          exact ⟨ys, by rw [upd_ne e]; exact s1 _ _ e1⟩
      have nl2 : ∀ b ∈ p :: ar :: r :: l :: addrs fs, b ≠ l2 := fun b hb => by obtain ⟨ys, e⟩ := inHb b hb; exact ne_of_none e hl2
      have smr := same_old (o := .lst (rws ++ [.ref t])) (frO r (by simp)) (sm.trans s1)
      have hstep : K2.step ⟨mar, mrows, mrow⟩ [59] = some ⟨mar, mrows ++ [.tup mrow], []⟩ := rfl
      rw [hstep] at hrun'
      refine ⟨_, hrun', ar, r, l2, fs, _, _, rfl, smr.trans s3, k3 p _ npr hp, k3 ar _ nar har, ⟨rws ++ [.ref t], [], s3 _ _ upd_same, upd_same, (tall.reps rr).append (Reps.one (Rep.mk (s3.tups _ _ (t2 _ _ upd_same)) (tall.reps rl))), Reps.nil, by simp; omega, Nat.zero_le _⟩,
        stk.mono tall (Nat.le_succ _) fun b hb o e => k3 b o (fun z => nrf (z ▸ hb)) e, ?_, ?_, by omega⟩
      · simp only [List.nodup_cons, List.mem_cons, not_or]
        exact ⟨⟨npa, npr, nl2 p (by simp), npf⟩, ⟨nar, nl2 ar (by simp), naf⟩, ⟨nl2 r (by simp), nrf⟩, fun z => nl2 l2 (by simp [z]) rfl, nff⟩
      · intro b hb
        have hb : b = l2 ∨ b ∈ p :: ar :: r :: l :: addrs fs := by
          simp only [List.mem_cons] at hb ⊢
          rcases hb with h | h | h | h | h
          · exact .inr (.inl h)
          · exact .inr (.inr (.inl h))
          · exact .inr (.inr (.inr (.inl h)))
          · exact .inl h
          · exact .inr (.inr (.inr (.inr (.inr h))))
        rcases hb with rfl | hb
        · exact ⟨smr.free hl2, _, upd_same⟩
        · obtain ⟨ys, e⟩ := inHb b hb
          exact ⟨frO b hb, ys, s3 _ _ e⟩
    · -- a word
      have n59 : wd ≠ [59] := fun z => c ((dec 59 _ sSemi).mpr z)
      refine ⟨_, rfl, .inl ⟨rfl, _, SqL.of hl⟩, _, rfl, _, rfl, wd, l, ws, mrow, rfl, lwd, hl, rl, fun H1 v s1 rv => ⟨l, ws, v, rfl, rfl, s1 _ _ hl, small ll, ?_⟩⟩
      have hl1 := s1 _ _ hl
      have t1 : Tups H1 (upd H1 l (.lst (ws ++ [v]))) := tups_lst hl1
      have tall := s1.tups.trans t1
      have keep : ∀ b o, b ≠ l → H' b = some o → upd H1 l (.lst (ws ++ [v])) b = some o := fun b o hb e => by rw [upd_ne hb]; exact s1 _ _ e
      have hstep : K2.step ⟨mar, mrows, mrow⟩ wd = some ⟨mar, mrows, mrow ++ [.at (readWord wd mrow)]⟩ := by unfold K2.step; rw [if_neg n123, if_neg n125, if_neg n59]
      rw [hstep] at hrun'
      refine ⟨_, hrun', ar, r, l, fs, _, _, rfl, same_old (frO l (by simp)) (sm.trans s1), keep p _ npl hp, keep ar _ nal har, ⟨rws, ws ++ [v], keep r _ nrl hr, upd_same, tall.reps rr, (tall.reps rl).append (Reps.one (t1.rep rv)), by omega, by simp; omega⟩,
        stk.mono tall (Nat.le_succ _) fun b hb o e => keep b o (fun z => nlf (z ▸ hb)) e, nd, fun b hb => ⟨frO b hb, ?_⟩, by omega⟩
      by_cases e : b = l
      · subst e; exact ⟨_, upd_same⟩
      · obtain ⟨ys, e1⟩ := inS b hb
        exact ⟨ys, keep b _ e e1⟩
  · rintro σ' H' ⟨ms, hrun, ⟨ar, r, l, fs, w5, w6, rfl, sm, hp, har, fr, stk, nd, fresh, hlen⟩⟩
    rw [List.take_of_length_le (by rw [strsV_len]; exact Nat.le_refl _)] at hrun
    obtain ⟨rws, ws, hr, hl, rr, rl, lr, ll⟩ := fr.ex
    rw [strsV_len] at lr
    refine ⟨_, rfl, _, rfl, r, l, rws, ws, ms.rows, ms.row, rfl, hr, hl, rr, rl, by omega, fun H5 v s5 rv => ?_⟩
    exact qs _ (by unfold readLine; rw [hrun]; rfl) H5 v (sm.trans s5) rv
end
end W2

-- D10
set_option linter.all false
set_option maxRecDepth 100000
set_option maxHeartbeats 0
/-! read_program -/
namespace W2
open PySem PySem.Spec PyProof.Rows K2 L2
section
variable {P : Program} {w : World} {K : PySem.W.Frag} {mg : Str → Option Value} {base : Heap}
theorem cut_init (xs : List V) : cutV xs none (some (-1)) = xs.dropLast := by
  unfold cutV
  rw [HT.sIx_none]
  have e : HT.sIx xs.length xs.length (some (-1)) = xs.length - 1 := by
    unfold HT.sIx; dsimp only; rw [if_pos (by decide)]; omega
  rw [e, Nat.sub_zero, List.drop_zero, List.dropLast_eq_take]
/-- what is no text -/
def NoText (H : Hp) (v : V) : Prop := v = .non ∨ (∃ i, v = .int i) ∨ ∃ a xs, v = .ref a ∧ H a = some (.lst xs)
def spRP (CB : Addr) : Sp := fun vs H Q E => ∃ v, vs = [v] ∧ ((∃ x : K2.T, v = .str (S x) ∧ x.length ≤ 100000 ∧ (∀ p, readProg x = some p → ∀ H' u, Same H H' → Rep H' p u → Q u H') ∧ (readProg x = none → ∀ H', Same H H' → E (.ref CB) none H')) ∨ (NoText H v ∧ E (.ref CB) none H))
theorem ndRead : (["line", "text", "program"] : List Str).Nodup := by decide +kernel
theorem scRead : FnScope ["text", "program"] ["text"] (defScope sRead) := ⟨rfl, rfl, rfl, by decide +kernel, rfl, by decide +kernel, by decide +kernel⟩
theorem ok_read {CB f : Addr} {fd : FuncData} (F : Fun K "read_program" "read_program" sRead f fd) (T : Tx mg) (mB : mg "BadText" = some (.ref CB)) (hxB : PySem.W.excIn K CB lkB "LookupError.__new__" = true)
    (hline : Has P w K mg base (CX1 P w) 3 "read_line" ["line"] (spRL CB)) (hprog : HasP P w K mg base 7 "is_program" isProg) (hpt : Has P w K mg base CX0 44 "program_text" ["program"] spPT) :
    FnOk P w K mg base (CX1 P w) 45 f fd ["text"] (spRP CB) := by
  refine F.okX scRead (fun vs H Q E h => ?_) (fun cdv A outer s H vs Q E hr h => ?_)
  · obtain ⟨v, rfl, _⟩ := h; rfl
  obtain ⟨v, rfl, h⟩ := h
  refine ⟨_, (pss_cons (ps_if (pt_not (pt_val (pe_callB call_isi rfl T.isi boot_isinstance (pa_cons (pv 0) (pa_cons (pe_bltn rfl T.str boot_str (v := .ty "str") rfl) pa_nil))))) (pss_one (ps_raise rfl rfl mB hxB (pa_cons pe_str pa_nil))) pss_nil)
    (pss_cons (ps_set (i := 1) scRead.nd rfl (Or.inl rfl) (pe_callTy call_tuple_of rfl T.tuple boot_tuple (pa_cons (pe_compX (E := E) (T := ["line"]) (scopeIn_of (defScope sRead) ["text", "program"] rfl rfl (by decide +kernel)) rfl rfl rfl (pi_list (pe_slice sl_list (pe_split1 (pv 0) pe_str) po_none (po_some (pe_un un_neg pe_int)))) (fun C s H ex pn => pg_name (i := 0) ndRead rfl (Or.inl rfl)) firsts_one (fun C s H ex pn => pifs_nil) (fun C s H ex pn => pe_callH hline hr rfl pass1C (pa_cons (pv 0) pa_nil))) pa_nil)))
    (pss_cons (ps_if (PW.pt (pw_or (pt_not (pt_val (pe_callH hprog hr rfl pass0 (pa_cons (pv 1) pa_nil)))) (pw_or1 (pt_cmpR op_ne (pe_callH hpt hr rfl pass0 (pa_cons (pv 1) pa_nil)) (pv 0) (nomark _))))) (pss_one (ps_raise rfl rfl mB hxB (pa_cons pe_str pa_nil))) pss_nil)
    (pss_one (ps_ret (pv 1)))))), ?_⟩
  rcases h with ⟨x, rfl, hx, qs, qn⟩ | ⟨nt, qe⟩
  rotate_left
  · have o1 : (1 : Nat) ≤ sizeLine := by decide
    rcases nt with rfl | ⟨i, rfl⟩ | ⟨a, xs, rfl, ha⟩
    · exact ⟨_, rfl, _, _, _, _, _, rfl, .non, fun u z => z, k_none_str, _, rfl, iteT ⟨o1, qe⟩⟩
    · exact ⟨_, rfl, _, _, _, _, _, rfl, .int i, fun u z => z, k_int_str, _, rfl, iteT ⟨o1, qe⟩⟩
    · exact ⟨_, rfl, _, _, _, _, _, rfl, .lst ha, fun u z => z, k_list_str, _, rfl, iteT ⟨o1, qe⟩⟩
  refine ⟨_, rfl, _, _, _, _, _, rfl, .str _, fun u z => z, k_same _, _, rfl, iteF ?_⟩
  refine ⟨_, rfl, rfl, x, 10, rfl, by rw [sNl], by omega, fun p1 hp1 => ?_⟩
  have s1 := same_new hp1 (.lst ((splitC 10 x).map fun y => V.str (S y)))
  refine ⟨1, rfl, -1, rfl, p1, _, rfl, SqL.of upd_same, fun p2 hp2 => ?_⟩
  rw [cut_init]
  have el : (((splitC 10 x).map fun y => V.str (S y))).dropLast = strsV (linesOf x) := by unfold strsV K2.linesOf; rw [List.map_dropLast]
  rw [el]
  have s2 := same_new hp2 (.lst (strsV (linesOf x)))
  refine ⟨p2, rfl, ⟨_, SqL.of upd_same⟩, ?_⟩
  refine comp_go (n := (linesOf x).length) (fun i ys H' => Same (upd (upd H p1 (.lst ((splitC 10 x).map fun y => V.str (S y)))) p2 (.lst (strsV (linesOf x)))) H' ∧ ∃ ss, readAll ((linesOf x).take i) = some ss ∧ Reps H' ss ys ∧ ys.length = i) ⟨Same.refl _, [], rfl, Reps.nil, rfl⟩ ?_ ?_
  · rintro i ys H3 hi ⟨s3, ss, hss, rss, hlen⟩
    have hi' : i < (strsV (linesOf x)).length := by rw [strsV_len]; exact hi
    have nl : (linesOf x).length ≤ 100001 := by
      have := splitC_len 10 x
      unfold K2.linesOf; rw [List.length_dropLast]; omega
    refine ⟨⟨_, _, SqL.of (s3 _ _ upd_same), List.getElem?_eq_getElem hi'⟩, by rw [hlen, sizeLine_eq]; omega, ?_⟩
    rintro v _ ⟨rfl, hv⟩
    have hv' := hv _ (SqL.of (s3 _ _ upd_same))
    obtain ⟨ln, eln, hln⟩ : ∃ ln, (linesOf x)[i] = ln ∧ v = .str (S ln) := ⟨_, rfl, by
      unfold strsV at hv'
      rw [List.getElem?_map, List.getElem?_eq_getElem hi] at hv'
      exact (Option.some.inj hv').symm⟩
    subst hln
    have hm : ln ∈ linesOf x := by rw [← eln]; exact List.getElem_mem hi
    have ll := lines_mem hm
    refine turn1 ?_
    refine ⟨_, rfl, ln, rfl, by omega, fun rs hrs H4 u s4 ru => Wc.next hi ⟨s3.trans s4, _, readAll_step hi hss (by rw [eln]; exact hrs), (s4.reps rss).append (Reps.one ru), by simp; omega⟩, fun hn H4 s4 => qn ?_ H4 (s1.trans (s2.trans (s3.trans s4)))⟩
    unfold readProg
    rw [readAll_none hn hm]; rfl
  · rintro ys H3 ⟨s3, ss, hss, rss, hlen⟩
    rw [List.take_length] at hss
    refine ⟨⟨_, SqL.of (s3 _ _ upd_same), by rw [strsV_len]; exact Nat.le_refl _⟩, fun p3 hp3 => ?_⟩
    have s4 := same_new hp3 (.lst ys)
    refine ⟨p3, _, rfl, .inl ⟨SqL.of upd_same, fun t ht => ?_⟩⟩
    have s5 := same_new ht (.tup ys)
    have s15 := s1.trans (s2.trans (s3.trans (s4.trans s5)))
    have rt : Rep _ (.tup ss) (.ref t) := Rep.mk (H := upd (upd H3 p3 (.lst ys)) t (.tup ys)) upd_same ((s4.trans s5).reps rss)
    have hprg : ∀ (b : Bool), (isProg (.tup ss) = true ∧ textProg (.tup ss) = x ↔ b = true) → readProg x = if b = true then some (.tup ss) else none := fun b hb => by
      unfold readProg
      rw [hss]
      show (if isProg (.tup ss) = true ∧ textProg (.tup ss) = x then some (PV.tup ss) else none) = _
      by_cases h : isProg (.tup ss) = true ∧ textProg (.tup ss) = x
      · rw [if_pos h, if_pos (hb.mp h)]
      · rw [if_neg h, if_neg fun z => h (hb.mpr z)]
    have o1 : (1 : Nat) ≤ sizeLine := by decide
    refine ⟨_, rfl, .tup ss, .ref t, rfl, rt, fun H6 s6 => ⟨_, rfl, ?_⟩⟩
    cases hip : isProg (.tup ss) with
    | false =>
      refine iteT (iteT ⟨o1, qn ?_ H6 (s15.trans s6)⟩)
      rw [hprg false (by rw [hip]; simp)]; rfl
    | true =>
      refine iteF ⟨_, rfl, .tup ss, .ref t, rfl, s6.rep rt, hip, fun H7 s7 => ⟨_, rfl, rfl, _, rfl, ite2 (fun c => ?_) (fun c => ?_)⟩⟩
      · have ne : textProg (.tup ss) ≠ x := fun z => by subst z; simp at c
        refine ⟨o1, qn ?_ H7 (s15.trans (s6.trans s7))⟩
        rw [hprg false (by simp [ne])]; rfl
      · have eq : textProg (.tup ss) = x := by
          have : V.str (S (textProg (.tup ss))) = V.str (S x) := by simpa using c
          injection this with z
          exact S_inj z
        refine ⟨_, rfl, qs _ ?_ H7 _ (s15.trans (s6.trans s7)) ((s6.trans s7).rep rt)⟩
        rw [hprg true (by simp [hip, eq])]; rfl
end
end W2

-- D11
set_option linter.all false
set_option maxRecDepth 100000
set_option maxHeartbeats 0
/-! split_words; how the law draws -/
namespace W2
open PySem PySem.Spec PyProof.Rows K2 L2
abbrev sTown : Stmt := top 47
abbrev sDraw : Stmt := top 48
abbrev sPick : Stmt := top 49
abbrev sLWord : Stmt := top 50
abbrev sRefused : Stmt := top 51
abbrev sTold : Stmt := top 52
abbrev sLThing : Stmt := top 53
abbrev sLRow : Stmt := top 54
abbrev sLProgram : Stmt := top 55
abbrev sOne : Stmt := top 56
abbrev sLRows : Stmt := top 57
abbrev sPart : Stmt := top 58
abbrev sLaw : Stmt := top 59
section
variable {P : Program} {w : World} {K : PySem.W.Frag} {mg : Str → Option Value} {base : Heap}
theorem scSplit : FnScope ["line"] ["line"] (defScope sSplit) := ⟨rfl, rfl, rfl, by decide +kernel, rfl, by decide +kernel, by decide +kernel⟩
theorem ok_split {f : Addr} {fd : FuncData} (F : Fun K "split_words" "split_words" sSplit f fd) : FnOk P w K mg base CX0 1 f fd ["line"] spSW := by
  refine F.ok scSplit (fun vs H Q E h => ?_) (fun cdv A outer s H vs Q E hr h => ?_)
  · obtain ⟨x, rfl, _⟩ := h; rfl
  obtain ⟨x, rfl, hx, q⟩ := h
  refine ⟨_, pss_cons (ps_repl PassesOwn.never rfl rfl rfl rfl) (pss_one (ps_ret (pe_split0 (pv 0)))), ?_⟩
  have := ex_len x
  exact ⟨x, rfl, hx, _, rfl, rfl, ex x, rfl, rfl, by omega, fun p hp => q _ p (same_new hp _) hp upd_same⟩
/-! the script and the town -/
def Scr (K : PySem.W.Frag) (H : Hp) (a : Addr) (ns : List Int) : Prop := (∃ o, H a = some (.frz o (.lst (intsV ns)))) ∨
  ∃ (o : Obj) (its : Array Value) (n : Nat), K.lookup a = some o ∧ o.cls = .type "list" ∧ o.dict = none ∧ o.data = .seq its n ∧ its.size ≤ sizeLine ∧ Vals (intsV ns) its.toList
theorem Scr.sql {H : Hp} {a : Addr} {ns : List Int} (h : Scr K H a ns) : SqL K H a (intsV ns) := by
  rcases h with ⟨o, h⟩ | h
  · exact .inl (.inr ⟨o, h⟩)
  · exact .inr h
/-- all but t is as it was -/
def Kept (t : Addr) (H H' : Hp) : Prop := ∀ b o, b ≠ t → H b = some o → H' b = some o
theorem Kept.refl (t : Addr) (H : Hp) : Kept t H H := fun _ _ _ e => e
theorem Kept.trans {t : Addr} {H H1 H2 : Hp} (a : Kept t H H1) (b : Kept t H1 H2) : Kept t H H2 := fun c o n e => b c o n (a c o n e)
theorem Kept.of {t : Addr} {H H' : Hp} (s : Same H H') : Kept t H H' := fun b o _ e => s b o e
theorem Kept.upd {t : Addr} {H : Hp} (o : HO) : Kept t H (upd H t o) := fun b u n e => by rw [upd_ne n]; exact e
def Tn (H : Hp) (t : Addr) (n : Nat) (c : Int) : Prop := ∃ cells : List Int, H t = some (.lst (.int c :: intsV cells)) ∧ cells.length = n
theorem Kept.tups {t : Addr} {H H' : Hp} {n : Nat} {c : Int} (k : Kept t H H') (h : Tn H t n c) : Tups H H' := fun b xs e => by
  obtain ⟨cells, h, _⟩ := h
  exact k b _ (ne_of e h (by intro z; cases z)) e
theorem Kept.scr {t : Addr} {H H' : Hp} {n : Nat} {c : Int} (k : Kept t H H') (h : Tn H t n c) {a : Addr} {ns : List Int} (s : Scr K H a ns) : Scr K H' a ns := by
  obtain ⟨cells, h, _⟩ := h
  rcases s with ⟨o, s⟩ | s
  · exact .inl ⟨o, k a _ (ne_of s h (by intro z; cases z)) s⟩
  · exact .inr s
theorem Tn.same {t : Addr} {H H' : Hp} {n : Nat} {c : Int} (s : Same H H') (h : Tn H t n c) : Tn H' t n c := by
  obtain ⟨cells, h, l⟩ := h
  exact ⟨cells, s _ _ h, l⟩
theorem Tn.ne {t p : Addr} {H : Hp} {n : Nat} {c : Int} (h : Tn H t n c) (hp : H p = none) : p ≠ t := by
  obtain ⟨cells, h, l⟩ := h
  exact (ne_of_none h hp).symm
theorem intsV_len (ns : List Int) : (intsV ns).length = ns.length := List.length_map _
theorem intsV_get {ns : List Int} {i : Nat} (h : i < ns.length) : (intsV ns)[i]? = some (.int ns[i]) := by unfold intsV; rw [List.getElem?_map, List.getElem?_eq_getElem h]; rfl
theorem intsV_set (ns : List Int) (i : Nat) (z : Int) : (intsV ns).set i (.int z) = intsV (ns.set i z) := by unfold intsV; rw [List.map_set]
def spTown (K : PySem.W.Frag) : Sp := fun vs H Q _ => ∃ a ns, vs = [.ref a] ∧ Scr K H a ns ∧ ns.length ≤ 63 ∧ ∀ t H', Same H H' → H t = none → Tn H' t ns.length 0 → Q (.ref t) H'
theorem scTown : FnScope ["_law_script"] ["_law_script"] (defScope sTown) := ⟨rfl, rfl, rfl, by decide +kernel, rfl, by decide +kernel, by decide +kernel⟩
theorem ok_town {f : Addr} {fd : FuncData} (F : Fun K "_law_town" "_law_town" sTown f fd) (T : Tx mg) : FnOk P w K mg base CX0 1 f fd ["_law_script"] (spTown K) := by
  refine F.ok scTown (fun vs H Q E h => ?_) (fun cdv A outer s H vs Q E hr h => ?_)
  · obtain ⟨a, ns, rfl, _⟩ := h; rfl
  obtain ⟨a, ns, rfl, hs, h63, q⟩ := h
  refine ⟨_, (pss_one (ps_ret (pe_op op_cat (pe_lst (pa_cons pe_int pa_nil)) (pe_callTy call_list_of rfl T.list boot_list (pa_cons (pv 0) pa_nil))))), ?_⟩
  refine ⟨(by show 1 ≤ sizeLine; decide), fun p hp => ?_⟩
  have s1 : Same H (upd H p (.lst [.int 0])) := same_new hp _
  refine ⟨_, rfl, a, _, rfl, .inl (s1.seq hs.sql), fun p2 hp2 => ?_⟩
  have s2 := same_new hp2 (.lst (intsV ns))
  refine ⟨p, p2, _, _, rfl, rfl, s2 _ _ upd_same, upd_same, ?_, fun t ht => ?_⟩
  · rw [intsV_len]; exact small (by simp; omega)
  exact q t _ (s1.trans (s2.trans (same_new ht _))) (s1.free (s2.free ht)) ⟨ns, upd_same, rfl⟩
/-! _law_draw -/
structure Dr (K : PySem.W.Frag) (H : Hp) (a t : Addr) (ns : List Int) (c : Int) : Prop where
  scr : Scr K H a ns
  tn : Tn H t ns.length c
  h63 : ns.length ≤ 63
  c0 : 0 ≤ c
  c1 : c < 2 ^ 40
def spDraw (K : PySem.W.Frag) : Sp := fun vs H Q _ => ∃ a t ns c m, vs = [.ref a, .ref t, .int m] ∧ Dr K H a t ns c ∧ 1 ≤ m ∧ m ≤ 1000000 ∧ ∀ d H', 0 ≤ d → d < m → Kept t H H' → Tn H' t ns.length (c + 1) → Q (.int d) H'
theorem scDraw : FnScope ["_law_script", "_law_town_here", "_law_many", "_law_at", "_law_left", "_law_number"] ["_law_script", "_law_town_here", "_law_many"] (defScope sDraw) := ⟨rfl, rfl, rfl, by decide +kernel, rfl, by decide +kernel, by decide +kernel⟩
theorem ok_draw {f : Addr} {fd : FuncData} (F : Fun K "_law_draw" "_law_draw" sDraw f fd) (T : Tx mg) : FnOk P w K mg base CX0 1 f fd ["_law_script", "_law_town_here", "_law_many"] (spDraw K) := by
  refine F.ok scDraw (fun vs H Q E h => ?_) (fun cdv A outer s H vs Q E hr h => ?_)
  · obtain ⟨a, t, ns, c, m, rfl, _⟩ := h; rfl
  obtain ⟨a, t, ns, c, m, rfl, dr, m1, m2, q⟩ := h
  have hu := hr.units0
  refine ⟨_, (pss_cons (ps_asg (pe_op op_add (pe_ix ix_list (pv 1) pe_int (fun _ _ => rfl)) pe_int) (pg_sub (pv 1) pe_int set_list))
    (pss_cons (ps_if (pt_cmpR (op_eqL0 hu) (pv 0) (pe_lst pa_nil) (nomark _)) (pss_one (ps_ret (pe_op op_mod (pe_op op_fdiv (pe_op op_mul (pe_op op_mul (pe_ix ix_list (pv 1) pe_int (fun _ _ => rfl)) (pe_ix ix_list (pv 1) pe_int (fun _ _ => rfl))) pe_int) pe_int) (pv 2)))) pss_nil)
    (pss_cons (ps_set (i := 3) scDraw.nd rfl (Or.inl rfl) (pe_op op_mod (pe_ix ix_list (pv 1) pe_int (fun _ _ => rfl)) (pe_callB call_len_seq rfl T.len PySem.boot_len (pa_cons (pv 0) pa_nil))))
    (pss_cons (ps_set (i := 4) scDraw.nd rfl (Or.inl rfl) (pe_ix ix_list (pv 1) (pe_op op_add pe_int (pv 3)) (fun _ _ => rfl)))
    (pss_cons (ps_if (PW.pt (pw_and (pt_cmpR op_ge (pe_ix ix_list (pv 0) (pv 3) (fun _ _ => rfl)) (pe_op op_pow pe_int pe_int) (nomark _)) (pw_and1 (pt_cmpR op_gt (pv 4) pe_int (nomark _))))) (pss_cons (ps_asg (pe_op op_fdiv (pv 4) (pv 2)) (pg_sub (pv 1) (pe_op op_add pe_int (pv 3)) set_list))
    (pss_one (ps_ret (pe_op op_mod (pv 4) (pv 2))))) pss_nil)
    (pss_cons (ps_set (i := 5) scDraw.nd rfl (Or.inl rfl) (pe_op op_mod (pe_op op_add (pe_ix ix_list (pv 0) (pv 3) (fun _ _ => rfl)) (pe_op op_mul pe_int (pe_ix ix_list (pv 1) pe_int (fun _ _ => rfl)))) pe_int))
    (pss_cons (ps_set (i := 5) scDraw.nd rfl (Or.inl rfl) (pe_op op_mod (pe_op op_pow (pv 5) pe_int) pe_int))
    (pss_one (ps_ret (pe_op op_mod (pe_op op_fdiv (pe_op op_mod (pe_op op_add (pe_op op_mul (pe_op op_fdiv (pv 5) pe_int) pe_int) (pv 5)) pe_int) pe_int) (pv 2))))))))))), ?_⟩
  obtain ⟨cells, ht, lc⟩ := dr.tn
  have c0 := dr.c0
  have c1 := dr.c1
  have h63 := dr.h63
  have at0 : ∀ (z : Int) (zs : List V), atI (V.int z :: zs) 0 = some (.int z) := fun z zs => atI_nat (j := 0) rfl
  refine ⟨_, rfl, t, _, 0, _, rfl, rfl, SqL.of ht, at0 _ _, _, _, rfl, rfl, _, rfl, t, _, 0, 0, rfl, rfl, ht, ?_, ?_⟩
  · show ixN (V.int c :: intsV cells).length 0 = some 0
    unfold ixN; rw [if_pos (by decide), if_pos (by simp)]; rfl
  have h1 : upd H t (.lst ((V.int c :: intsV cells).set 0 (.int (c + 1)))) t = some (.lst (.int (c + 1) :: intsV cells)) := upd_same
  have k1 : Kept t H (upd H t (.lst ((V.int c :: intsV cells).set 0 (.int (c + 1))))) := Kept.upd _
  generalize upd H t (.lst ((V.int c :: intsV cells).set 0 (.int (c + 1)))) = H1 at h1 k1 ⊢
  have sc1 : Scr K H1 a ns := k1.scr dr.tn dr.scr
  have mpos : 0 < m := by omega
  refine ⟨_, rfl, (by show 0 ≤ sizeLine; decide), fun e he => ?_⟩
  have s2 : Same H1 (upd H1 e (.lst [])) := same_new he _
  refine ⟨a, e, _, rfl, rfl, s2.seq sc1.sql, SqL.of upd_same, _, rfl, ?_⟩
  have h2 := s2 _ _ h1
  have k2 := k1.trans (Kept.of (t := t) s2)
  have sc2 : SqL K (upd H1 e (.lst [])) a (intsV ns) := s2.seq sc1.sql
  generalize upd H1 e (.lst []) = H2 at h2 k2 sc2 ⊢
  have tn2 : Tn H2 t ns.length (c + 1) := ⟨cells, h2, lc⟩
  have p1 : (0 : Int) < 4294967291 := by decide
  have p2 : (0 : Int) < 4294967279 := by decide
  have p3 : (0 : Int) < 4294967231 := by decide
  refine ite2 (fun hz => ?_) (fun hz => ?_)
  · refine ⟨_, rfl, t, _, 0, _, rfl, rfl, SqL.of h2, at0 _ _, _, rfl, t, _, 0, _, rfl, rfl, SqL.of h2, at0 _ _, _, _, rfl, rfl, .inl ⟨by omega, by omega⟩, _, _, rfl, rfl, .inr ⟨by decide, by decide⟩, _, _, rfl, rfl, ⟨by decide, by decide⟩, _, rfl, _, _, rfl, rfl, mpos, ?_⟩
    exact q _ H2 (Int.emod_nonneg _ (by omega)) (Int.emod_lt_of_pos _ mpos) k2 tn2
  · have hlen : 0 < ns.length := by
      cases ns with
      | nil => exact absurd rfl hz
      | cons => simp
    refine ⟨_, rfl, t, _, 0, _, rfl, rfl, SqL.of h2, at0 _ _, _, rfl, a, _, rfl, .inl sc2, _, _, rfl, rfl, ?_, ?_⟩
    · rw [intsV_len]; omega
    rw [intsV_len]
    have i0 := Int.emod_nonneg (c + 1) (by omega : (ns.length : Int) ≠ 0)
    have i1 := Int.emod_lt_of_pos (c + 1) (by omega : (0 : Int) < ns.length)
    obtain ⟨j, hj⟩ : ∃ j : Nat, (c + 1) % (ns.length : Int) = (j : Int) := ⟨((c + 1) % (ns.length : Int)).toNat, by omega⟩
    rw [hj] at i0 i1
    have hjl : j < ns.length := by omega
    have hjc : j < cells.length := by omega
    have ati : atI (intsV ns) ((c + 1) % (ns.length : Int)) = some (.int ns[j]) := by rw [hj]; exact atI_nat (intsV_get hjl)
    have e1j : (1 : Int) + (j : Int) = ((j + 1 : Nat) : Int) := by omega
    have atc : atI (V.int (c + 1) :: intsV cells) (1 + (c + 1) % (ns.length : Int)) = some (.int cells[j]) := by rw [hj, e1j]; exact atI_nat (by simpa using intsV_get hjc)
    refine ⟨_, rfl, _, rfl, _, _, rfl, rfl, t, _, _, _, rfl, rfl, SqL.of h2, atc, ?_⟩
    refine ⟨_, rfl, _, rfl, a, _, _, _, rfl, rfl, sc2, ati, _, _, rfl, rfl, ⟨by decide, by decide, by decide⟩, _, _, rfl, rfl, _, rfl, ite2 (fun c3 => ⟨_, rfl, _, _, rfl, rfl, _, rfl, ite2 (fun c4 => ?_) (fun c4 => ?_)⟩) (fun c3 => iteF ?_)⟩
    · have hpos : (0 : Int) < cells[j] := of_decide_eq_true c4
      refine ⟨_, rfl, _, rfl, _, _, rfl, rfl, ⟨mpos, by omega⟩, _, rfl, _, rfl, _, _, rfl, rfl, t, _, _, j + 1, rfl, rfl, h2, ?_, ?_⟩
      · show ixN (V.int (c + 1) :: intsV cells).length (1 + (c + 1) % (ns.length : Int)) = some (j + 1)
        rw [hj]
        unfold ixN
        rw [if_pos (by omega), if_pos (by rw [List.length_cons, intsV_len]; omega)]
        congr 1; omega
      · refine ⟨_, rfl, _, rfl, _, _, rfl, rfl, mpos, ?_⟩
        refine q _ _ (Int.emod_nonneg _ (by omega)) (Int.emod_lt_of_pos _ mpos) (k2.trans (Kept.upd _)) ⟨cells.set j (cells[j] / m), ?_, by rw [List.length_set]; exact lc⟩
        rw [← intsV_set]; exact upd_same
    · refine ⟨_, rfl, _, rfl, a, _, _, _, rfl, rfl, sc2, ati, _, rfl, t, _, 0, _, rfl, rfl, SqL.of h2, at0 _ _, _, _, rfl, rfl, .inr ⟨by omega, by omega⟩, _, _, rfl, rfl, _, _, rfl, rfl, p1, ?_⟩
      have y0 := Int.emod_nonneg (ns[j] + 104729 * (c + 1)) (by decide : (4294967291 : Int) ≠ 0)
      have y1 := Int.emod_lt_of_pos (ns[j] + 104729 * (c + 1)) (by decide : (0 : Int) < 4294967291)
      refine ⟨_, rfl, _, _, rfl, rfl, ⟨by decide, by decide, by omega⟩, _, _, rfl, rfl, p2, ?_⟩
      refine ⟨_, rfl, _, _, rfl, rfl, ⟨by decide, by decide⟩, _, _, rfl, rfl, .inr ⟨by decide, by decide⟩, _, rfl, _, _, rfl, rfl, _, _, rfl, rfl, p3, _, _, rfl, rfl, ⟨by decide, by decide⟩, _, rfl, _, _, rfl, rfl, mpos, ?_⟩
      exact q _ H2 (Int.emod_nonneg _ (by omega)) (Int.emod_lt_of_pos _ mpos) k2 tn2
    · refine ⟨_, rfl, _, rfl, a, _, _, _, rfl, rfl, sc2, ati, _, rfl, t, _, 0, _, rfl, rfl, SqL.of h2, at0 _ _, _, _, rfl, rfl, .inr ⟨by omega, by omega⟩, _, _, rfl, rfl, _, _, rfl, rfl, p1, ?_⟩
      have y0 := Int.emod_nonneg (ns[j] + 104729 * (c + 1)) (by decide : (4294967291 : Int) ≠ 0)
      have y1 := Int.emod_lt_of_pos (ns[j] + 104729 * (c + 1)) (by decide : (0 : Int) < 4294967291)
      refine ⟨_, rfl, _, _, rfl, rfl, ⟨by decide, by decide, by omega⟩, _, _, rfl, rfl, p2, ?_⟩
      refine ⟨_, rfl, _, _, rfl, rfl, ⟨by decide, by decide⟩, _, _, rfl, rfl, .inr ⟨by decide, by decide⟩, _, rfl, _, _, rfl, rfl, _, _, rfl, rfl, p3, _, _, rfl, rfl, ⟨by decide, by decide⟩, _, rfl, _, _, rfl, rfl, mpos, ?_⟩
      exact q _ H2 (Int.emod_nonneg _ (by omega)) (Int.emod_lt_of_pos _ mpos) k2 tn2
end
end W2

-- D12
set_option linter.all false
set_option maxRecDepth 100000
set_option maxHeartbeats 0
/-! _law_pick, _law_thing -/
namespace W2
open PySem PySem.Spec PyProof.Rows K2 L2
section
variable {P : Program} {w : World} {K : PySem.W.Frag} {mg : Str → Option Value} {base : Heap}
theorem Dr.same {H H' : Hp} {a t : Addr} {ns : List Int} {c : Int} (s : Same H H') (d : Dr K H a t ns c) : Dr K H' a t ns c := ⟨(Kept.of s).scr d.tn d.scr, d.tn.same s, d.h63, d.c0, d.c1⟩
def spPick (K : PySem.W.Frag) : Sp := fun vs H Q _ => ∃ a t ns c l xs, vs = [.ref a, .ref t, .ref l] ∧ Dr K H a t ns c ∧ l ≠ t ∧ H l = some (.lst xs) ∧ 1 ≤ xs.length ∧ xs.length ≤ 1000 ∧ ∀ x H', x ∈ xs → Kept t H H' → Tn H' t ns.length (c + 1) → Q x H'
theorem scPick : FnScope ["_law_script", "_law_town_here", "_law_some"] ["_law_script", "_law_town_here", "_law_some"] (defScope sPick) := ⟨rfl, rfl, rfl, by decide +kernel, rfl, by decide +kernel, by decide +kernel⟩
theorem ok_pick {f : Addr} {fd : FuncData} (F : Fun K "_law_pick" "_law_pick" sPick f fd) (T : Tx mg) (hd : Has P w K mg base CX0 1 "_law_draw" ["_law_script", "_law_town_here", "_law_many"] (spDraw K)) : FnOk P w K mg base CX0 2 f fd ["_law_script", "_law_town_here", "_law_some"] (spPick K) := by
  refine F.ok scPick (fun vs H Q E h => ?_) (fun cdv A outer s H vs Q E hr h => ?_)
  · obtain ⟨a, t, ns, c, l, xs, rfl, _⟩ := h; rfl
  obtain ⟨a, t, ns, c, l, xs, rfl, d, hlt, hl, h1, h2, q⟩ := h
  refine ⟨_, (pss_one (ps_ret (pe_ix ix_list (pv 2) (pe_callH hd hr rfl pass0 (pa_cons (pv 0) (pa_cons (pv 1) (pa_cons (pe_callB call_len_seq rfl T.len PySem.boot_len (pa_cons (pv 2) pa_nil)) pa_nil)))) (fun _ _ => rfl)))), ?_⟩
  refine ⟨_, rfl, _, rfl, _, rfl, _, rfl, l, _, rfl, .inl (SqL.of hl), a, t, ns, c, _, rfl, d, by omega, by omega, fun z H' z0 z1 k tn => ?_⟩
  obtain ⟨j, rfl⟩ : ∃ j : Nat, z = (j : Int) := ⟨z.toNat, by omega⟩
  have hj : j < xs.length := by omega
  refine ⟨l, xs, _, xs[j], rfl, rfl, SqL.of (k _ _ hlt hl), atI_nat (List.getElem?_eq_getElem hj), q _ H' (List.getElem_mem hj) k tn⟩
theorem sA : ("a" : Str) = S [97] := by decide +kernel
theorem sB : ("b" : Str) = S [98] := by decide +kernel
theorem sTt : ("t" : Str) = S [116] := by decide +kernel
theorem sU : ("u" : Str) = S [117] := by decide +kernel
theorem rep_at {H H' : Hp} {a : Atom} {v : V} (r : Rep H (.at a) v) : Rep H' (.at a) v := by cases a <;> exact r
theorem rep_str {H : Hp} {x : K2.T} {y : Str} (e : y = S x) (h : x.length ≤ 1000000 := by decide) : Rep H (.at (.str x)) (.str y) := ⟨by rw [e], h⟩
def spLThing (K : PySem.W.Frag) : Sp := fun vs H Q _ => ∃ a t ns c, vs = [.ref a, .ref t] ∧ Dr K H a t ns c ∧ ∀ x v H', x ∈ things → Rep H' (.at x) v → Kept t H H' → Tn H' t ns.length (c + 1) → Q v H'
theorem scLThing : FnScope ["_law_script", "_law_town_here"] ["_law_script", "_law_town_here"] (defScope sLThing) := ⟨rfl, rfl, rfl, by decide +kernel, rfl, by decide +kernel, by decide +kernel⟩
theorem ok_lthing {f : Addr} {fd : FuncData} (F : Fun K "_law_thing" "_law_thing" sLThing f fd) (hp : Has P w K mg base CX0 2 "_law_pick" ["_law_script", "_law_town_here", "_law_some"] (spPick K)) : FnOk P w K mg base CX0 3 f fd ["_law_script", "_law_town_here"] (spLThing K) := by
  refine F.ok scLThing (fun vs H Q E h => ?_) (fun cdv A outer s H vs Q E hr h => ?_)
  · obtain ⟨a, t, ns, c, rfl, _⟩ := h; rfl
  obtain ⟨a, t, ns, c, rfl, d, q⟩ := h
  refine ⟨_, (pss_one (ps_ret (pe_callH hp hr rfl pass0 (pa_cons (pv 0) (pa_cons (pv 1) (pa_cons (pe_lst (pa_cons pe_int (pa_cons pe_int (pa_cons pe_int (pa_cons (pe_un un_neg pe_int) (pa_cons pe_str (pa_cons pe_str (pa_cons pe_str pa_nil)))))))) pa_nil)))))), ?_⟩
  refine ⟨_, rfl, _, rfl, 3, rfl, (by show 7 ≤ sizeLine; decide), fun l hl => ?_⟩
  have s1 : Same H (upd H l (.lst [.int 1, .int 2, .int 7, .int (-3), .str "a", .str "b", .str "a"])) := same_new hl _
  refine ⟨a, t, ns, c, l, _, rfl, d.same s1, d.tn.ne hl, upd_same, (by show 1 ≤ 7; decide), (by show 7 ≤ 1000; decide), fun x H' hx k tn => ?_⟩
  have k' := (Kept.of (t := t) s1).trans k
  simp only [List.mem_cons, List.not_mem_nil, or_false] at hx
  rcases hx with rfl | rfl | rfl | rfl | rfl | rfl | rfl
  · exact q (.int 1) _ H' (by decide) rfl k' tn
  · exact q (.int 2) _ H' (by decide) rfl k' tn
  · exact q (.int 7) _ H' (by decide) rfl k' tn
  · exact q (.int (-3)) _ H' (by decide) rfl k' tn
  · exact q (.str [97]) _ H' (by decide) (rep_str sA) k' tn
  · exact q (.str [98]) _ H' (by decide) (rep_str sB) k' tn
  · exact q (.str [97]) _ H' (by decide) (rep_str sA) k' tn
/-! the rows that are drawn -/
theorem mem_send {os : List Int} {t m : Int} {th : Atom} (h1 : t ∈ os) (h2 : m = 0 ∨ m = 1) (h3 : th ∈ things) : [.str wSend, .int t, .int m, th] ∈ flats os := by
  unfold flats
  refine List.mem_append_left _ (List.mem_append_left _ (List.mem_append_left _ (List.mem_append_left _ (List.mem_append_left _ (List.mem_append_left _ ?_)))))
  exact List.mem_flatMap.mpr ⟨t, h1, List.mem_flatMap.mpr ⟨m, by rcases h2 with rfl | rfl <;> simp, List.mem_map.mpr ⟨th, h3, rfl⟩⟩⟩
theorem mem_take {os : List Int} {x m b : Atom} (h1 : x ∈ whences os) (h2 : m ∈ marks) (h3 : b ∈ boxes) : [.str wTake, x, m, b] ∈ flats os := by
  unfold flats
  refine List.mem_append_left _ (List.mem_append_left _ (List.mem_append_left _ (List.mem_append_left _ (List.mem_append_left _ (List.mem_append_right _ ?_)))))
  exact List.mem_flatMap.mpr ⟨x, h1, List.mem_flatMap.mpr ⟨m, h2, List.mem_map.mpr ⟨b, h3, rfl⟩⟩⟩
theorem mem_post {os : List Int} {t x m b : Atom} (h0 : t ∈ tickets) (h1 : x ∈ whences os) (h2 : m ∈ marks) (h3 : b ∈ boxes) : [.str wPost, t, x, m, b] ∈ flats os := by
  unfold flats
  refine List.mem_append_left _ (List.mem_append_left _ (List.mem_append_left _ (List.mem_append_left _ (List.mem_append_right _ ?_))))
  exact List.mem_flatMap.mpr ⟨t, h0, List.mem_flatMap.mpr ⟨x, h1, List.mem_flatMap.mpr ⟨m, h2, List.mem_map.mpr ⟨b, h3, rfl⟩⟩⟩⟩
theorem mem_wait {os : List Int} {t : Atom} (h0 : t ∈ tickets) : [.str wWait, t] ∈ flats os := by
  unfold flats
  exact List.mem_append_left _ (List.mem_append_left _ (List.mem_append_left _ (List.mem_append_right _ (List.mem_map.mpr ⟨t, h0, rfl⟩))))
theorem mem_add {os : List Int} {b x y : Atom} (h0 : b ∈ boxes) (h1 : x ∈ things) (h2 : y ∈ things) : [.str wAdd, b, x, y] ∈ flats os := by
  unfold flats
  exact List.mem_append_left _ (List.mem_append_left _ (List.mem_append_right _ (List.mem_flatMap.mpr ⟨b, h0, List.mem_flatMap.mpr ⟨x, h1, List.mem_map.mpr ⟨y, h2, rfl⟩⟩⟩)))
theorem mem_two {os : List Int} {r : List Atom} (h : r = [.str wAll] ∨ r = [.str wTell, .int 5]) : r ∈ flats os := by
  unfold flats
  exact List.mem_append_left _ (List.mem_append_right _ (by rcases h with rfl | rfl <;> simp))
theorem mem_tell {os : List Int} {x : Atom} (h : x ∈ things) : [.str wTell, x] ∈ flats os := by
  unfold flats
  exact List.mem_append_right _ (List.mem_map.mpr ⟨x, h, rfl⟩)
theorem mem_head {b : Atom} {n : Int} (h0 : b ∈ boxes) (h1 : n = 0 ∨ n = 1 ∨ n = 2) : [.str wCase, b, .int n] ∈ heads := by
  unfold heads
  exact List.mem_flatMap.mpr ⟨b, h0, List.mem_map.mpr ⟨n, by rcases h1 with rfl | rfl | rfl <;> simp, rfl⟩⟩
end
end W2

-- D13
set_option linter.all false
set_option maxRecDepth 100000
set_option maxHeartbeats 0
/-! _law_row -/
namespace W2
open PySem PySem.Spec PyProof.Rows K2 L2
section
variable {P : Program} {w : World} {K : PySem.W.Frag} {mg : Str → Option Value} {base : Heap}
/-- k draws after H0 -/
structure AtK (H0 H : Hp) (t : Addr) (n : Nat) (c0 : Int) (k : Nat) : Prop where
  kept : Kept t H0 H
  tn : Tn H t n (c0 + k)
theorem AtK.dr {H0 H : Hp} {a t : Addr} {ns : List Int} {c0 : Int} {k : Nat} (d : Dr K H0 a t ns c0) (hc : c0 < 2 ^ 30) (h : AtK H0 H t ns.length c0 k) (hk : k ≤ 100000 := by omega) : Dr K H a t ns (c0 + k) :=
  ⟨h.kept.scr d.tn d.scr, h.tn, d.h63, by have := d.c0; omega, by omega⟩
theorem AtK.same {H0 H H' : Hp} {t : Addr} {n : Nat} {c0 : Int} {k : Nat} (h : AtK H0 H t n c0 k) (s : Same H H') : AtK H0 H' t n c0 k := ⟨h.kept.trans (Kept.of s), h.tn.same s⟩
theorem AtK.step {H0 H H' : Hp} {t : Addr} {n : Nat} {c0 : Int} {k : Nat} (h : AtK H0 H t n c0 k) (kp : Kept t H H') (tn : Tn H' t n (c0 + k + 1)) : AtK H0 H' t n c0 (k + 1) := ⟨h.kept.trans kp, by rw [show c0 + ((k + 1 : Nat) : Int) = c0 + k + 1 by omega]; exact tn⟩
theorem AtK.ne {H0 H : Hp} {t p : Addr} {n : Nat} {c0 : Int} {k : Nat} (h : AtK H0 H t n c0 k) (hp : H p = none) : p ≠ t := h.tn.ne hp
theorem AtK.trans {H0 H H' : Hp} {t : Addr} {n : Nat} {c0 : Int} {k k' : Nat} (h : AtK H0 H t n c0 k) (h' : AtK H H' t n (c0 + k) k') : AtK H0 H' t n c0 (k + k') := ⟨h.kept.trans h'.kept, by rw [show c0 + ((k + k' : Nat) : Int) = c0 + k + k' by omega]; exact h'.tn⟩
theorem oth_len {n me : Nat} (h2 : 2 ≤ n) (h4 : n ≤ 4) (hm : me < n) : 1 ≤ (othersOf n me).length ∧ (othersOf n me).length ≤ 4 := by
  have : ∀ n ∈ [2, 3, 4], ∀ me ∈ List.range n, 1 ≤ (othersOf n me).length ∧ (othersOf n me).length ≤ 4 := by decide +kernel
  exact this n (by simp; omega) me (List.mem_range.mpr hm)
theorem sSend : ("send" : Str) = S wSend := by decide +kernel
theorem sTake : ("take" : Str) = S wTake := by decide +kernel
theorem sPost : ("post" : Str) = S wPost := by decide +kernel
theorem sWait : ("wait" : Str) = S wWait := by decide +kernel
theorem sTell : ("tell" : Str) = S wTell := by decide +kernel
theorem sAdd : ("add" : Str) = S wAdd := by decide +kernel
theorem sAll : ("all" : Str) = S wAll := by decide +kernel
def spLR (K : PySem.W.Frag) (d : Nat) : Sp := fun vs H Q _ => ∃ a t ns c n me, vs = [.ref a, .ref t, .int (me : Nat), .int (n : Nat), .bl true, .int ((d : Int) - 1)] ∧ 1 ≤ d ∧ Dr K H a t ns c ∧ c + 1000 * d < 2 ^ 29 ∧ 2 ≤ n ∧ n ≤ 4 ∧ me < n ∧
  ∀ v (k : Nat) H', k ≤ 100 * d - 80 → AtK H H' t ns.length c k → (∃ dr, (d = 1 → ∃ its, its ∈ flats (othersOf n me) ∧ dr = .flat its) ∧ Row (othersOf n me) dr ∧ Rep H' dr.pv v) → Q v H'
theorem ndLRow1 : (["_law_at", "_law_script", "_law_town_here", "_law_me", "_law_hands", "_law_wild", "_law_deep", "_law_others", "_law_way", "_law_mark", "_law_whence", "_law_rows_here", "_law_number"] : List Str).Nodup := by decide +kernel
theorem ndLRow2 : (["_law_k", "_law_script", "_law_town_here", "_law_me", "_law_hands", "_law_wild", "_law_deep", "_law_others", "_law_way", "_law_mark", "_law_whence", "_law_rows_here", "_law_number"] : List Str).Nodup := by decide +kernel
theorem scLRow : FnScope ["_law_script", "_law_town_here", "_law_me", "_law_hands", "_law_wild", "_law_deep", "_law_others", "_law_way", "_law_mark", "_law_whence", "_law_rows_here", "_law_number"] ["_law_script", "_law_town_here", "_law_me", "_law_hands", "_law_wild", "_law_deep"] (defScope sLRow) := ⟨rfl, rfl, rfl, by decide +kernel, rfl, by decide +kernel, by decide +kernel⟩
theorem ok_lrow {d : Nat} {f : Addr} {fd : FuncData} (F : Fun K "_law_row" "_law_row" sLRow f fd) (T : Tx mg) (hd2 : d ≤ 1) (hd : Has P w K mg base CX0 1 "_law_draw" ["_law_script", "_law_town_here", "_law_many"] (spDraw K)) (hp : Has P w K mg base CX0 2 "_law_pick" ["_law_script", "_law_town_here", "_law_some"] (spPick K))
    (ht : Has P w K mg base CX0 3 "_law_thing" ["_law_script", "_law_town_here"] (spLThing K)) (hself : Has P w K mg base CX0 (d + 3) "_law_row" ["_law_script", "_law_town_here", "_law_me", "_law_hands", "_law_wild", "_law_deep"] (spLR K d)) :
    FnOk P w K mg base CX0 (d + 4) f fd ["_law_script", "_law_town_here", "_law_me", "_law_hands", "_law_wild", "_law_deep"] (spLR K (d + 1)) := by
  refine F.ok (k := d + 3) scLRow (fun vs H Q E h => ?_) (fun cdv A outer s H vs Q E hr h => ?_)
  · obtain ⟨a, t, ns, c, n, me, rfl, _⟩ := h; rfl
  obtain ⟨a, t, ns, c, n, me, rfl, _, dr, hc, h2, h4, hme, q⟩ := h
  refine ⟨_, (pss_cons (ps_setComp (i := 6) (T := ["_law_at"]) (scopeIn_of (defScope sLRow) ["_law_script", "_law_town_here", "_law_me", "_law_hands", "_law_wild", "_law_deep", "_law_others", "_law_way", "_law_mark", "_law_whence", "_law_rows_here", "_law_number"] rfl rfl (by decide +kernel)) rfl scLRow.nd rfl rfl (pi_range1 rfl T.range (pa_cons (pv 3) pa_nil)) (fun Y hY => by cases hY; exact pg_name (i := 0) ndLRow1 rfl (Or.inl rfl)) firsts_one (fun Y hY => by cases hY; exact pifs_one (pt_cmpR op_ne (pv 0) (pv 3) (nomark _))) (fun Y hY => by cases hY; exact pv 0))
    (pss_cons (ps_set (i := 7) scLRow.nd rfl (Or.inl rfl) (pe_callH hd hr rfl pass0 (pa_cons (pv 0) (pa_cons (pv 1) (pa_cons pe_int pa_nil)))))
    (pss_cons (ps_if (pt_cmpR op_lt (pv 7) pe_int (nomark _)) (pss_one (ps_ret (pe_tup (pa_cons pe_str (pa_cons (pe_callH hp hr rfl pass0 (pa_cons (pv 0) (pa_cons (pv 1) (pa_cons (pv 6) pa_nil)))) (pa_cons (pe_callH hd hr rfl pass0 (pa_cons (pv 0) (pa_cons (pv 1) (pa_cons pe_int pa_nil)))) (pa_cons (pe_callH ht hr rfl pass0 (pa_cons (pv 0) (pa_cons (pv 1) pa_nil))) pa_nil))))))) pss_nil)
    (pss_cons (ps_set (i := 8) scLRow.nd rfl (Or.inl rfl) (pe_callH hp hr rfl pass0 (pa_cons (pv 0) (pa_cons (pv 1) (pa_cons (pe_lst (pa_cons pe_int (pa_cons pe_int (pa_cons pe_non pa_nil)))) pa_nil)))))
    (pss_cons (ps_set (i := 9) scLRow.nd rfl (Or.inl rfl) (pe_callH hp hr rfl pass0 (pa_cons (pv 0) (pa_cons (pv 1) (pa_cons (pv 6) pa_nil)))))
    (pss_cons (ps_if (PW.pt (pw_and (pt_val (pv 4)) (pw_and1 (pt_cmpR op_eq (pe_callH hd hr rfl pass0 (pa_cons (pv 0) (pa_cons (pv 1) (pa_cons pe_int pa_nil)))) pe_int (nomark _))))) (pss_one (ps_set (i := 9) scLRow.nd rfl (Or.inl rfl) pe_non)) pss_nil)
    (pss_cons (ps_if (pt_cmpR op_lt (pv 7) pe_int (nomark _)) (pss_one (ps_ret (pe_tup (pa_cons pe_str (pa_cons (pv 9) (pa_cons (pv 8) (pa_cons (pe_callH hp hr rfl pass0 (pa_cons (pv 0) (pa_cons (pv 1) (pa_cons (pe_lst (pa_cons pe_str (pa_cons pe_str pa_nil))) pa_nil)))) pa_nil))))))) pss_nil)
    (pss_cons (ps_if (pt_cmpR op_eq (pv 7) pe_int (nomark _)) (pss_one (ps_ret (pe_tup (pa_cons pe_str (pa_cons (pe_callH hp hr rfl pass0 (pa_cons (pv 0) (pa_cons (pv 1) (pa_cons (pe_lst (pa_cons pe_str (pa_cons pe_str pa_nil))) pa_nil)))) (pa_cons (pv 9) (pa_cons (pv 8) (pa_cons (pe_callH hp hr rfl pass0 (pa_cons (pv 0) (pa_cons (pv 1) (pa_cons (pe_lst (pa_cons pe_str (pa_cons pe_str pa_nil))) pa_nil)))) pa_nil)))))))) pss_nil)
    (pss_cons (ps_if (pt_cmpR op_eq (pv 7) pe_int (nomark _)) (pss_one (ps_ret (pe_tup (pa_cons pe_str (pa_cons (pe_callH hp hr rfl pass0 (pa_cons (pv 0) (pa_cons (pv 1) (pa_cons (pe_lst (pa_cons pe_str (pa_cons pe_str pa_nil))) pa_nil)))) pa_nil))))) pss_nil)
    (pss_cons (ps_if (pt_cmpR op_eq (pv 7) pe_int (nomark _)) (pss_one (ps_ret (pe_tup (pa_cons pe_str (pa_cons (pe_callH hp hr rfl pass0 (pa_cons (pv 0) (pa_cons (pv 1) (pa_cons (pe_lst (pa_cons pe_str (pa_cons pe_str pa_nil))) pa_nil)))) (pa_cons (pe_callH ht hr rfl pass0 (pa_cons (pv 0) (pa_cons (pv 1) pa_nil))) (pa_cons (pe_callH ht hr rfl pass0 (pa_cons (pv 0) (pa_cons (pv 1) pa_nil))) pa_nil))))))) pss_nil)
    (pss_cons (ps_if (PW.pt (pw_and (pt_cmpR op_eq (pv 7) pe_int (nomark _)) (pw_and1 (pt_cmpR op_gt (pv 5) pe_int (nomark _))))) (pss_cons (ps_setComp (i := 10) (T := ["_law_k"]) (scopeIn_of (defScope sLRow) ["_law_script", "_law_town_here", "_law_me", "_law_hands", "_law_wild", "_law_deep", "_law_others", "_law_way", "_law_mark", "_law_whence", "_law_rows_here", "_law_number"] rfl rfl (by decide +kernel)) rfl scLRow.nd rfl rfl (pi_range1 rfl T.range (pa_cons pe_int pa_nil)) (fun Y hY => by cases hY; exact pg_name (i := 0) ndLRow2 rfl (Or.inl rfl)) firsts_one (fun Y _ => pifs_nil) (fun Y hY => by cases hY; exact pe_callH hself hr rfl pass0 (pa_cons (pv 1) (pa_cons (pv 2) (pa_cons (pv 3) (pa_cons (pv 4) (pa_cons (pv 5) (pa_cons pe_int pa_nil))))))))
    (pss_cons (ps_set (i := 11) scLRow.nd rfl (Or.inl rfl) (pe_callH hp hr rfl pass0 (pa_cons (pv 0) (pa_cons (pv 1) (pa_cons (pe_lst (pa_cons pe_int (pa_cons pe_int (pa_cons pe_int pa_nil)))) pa_nil)))))
    (pss_one (ps_ret (pe_tup (pa_cons pe_str (pa_cons (pe_callH hp hr rfl pass0 (pa_cons (pv 0) (pa_cons (pv 1) (pa_cons (pe_lst (pa_cons pe_str (pa_cons pe_str pa_nil))) pa_nil)))) (pa_cons (pv 11) (pa_cons (pe_callTy call_tuple_of rfl T.tuple boot_tuple (pa_cons (pe_slice sl_list (pv 10) po_none (po_some pe_int)) pa_nil)) (pa_cons (pe_callTy call_tuple_of rfl T.tuple boot_tuple (pa_cons (pe_slice sl_list (pv 10) (po_some pe_int) po_none) pa_nil)) pa_nil)))))))))) pss_nil)
    (pss_cons (ps_if (pt_cmpR op_eq (pv 7) pe_int (nomark _)) (pss_one (ps_ret (pe_callH hp hr rfl pass0 (pa_cons (pv 0) (pa_cons (pv 1) (pa_cons (pe_lst (pa_cons (pe_tup (pa_cons pe_str pa_nil)) (pa_cons (pe_tup (pa_cons pe_str (pa_cons pe_int pa_nil))) pa_nil))) pa_nil)))))) pss_nil)
    (pss_one (ps_ret (pe_tup (pa_cons pe_str (pa_cons (pe_callH ht hr rfl pass0 (pa_cons (pv 0) (pa_cons (pv 1) pa_nil))) pa_nil))))))))))))))))), ?_⟩
  have hc' : c < 2 ^ 30 := by omega
  have ol := oth_len h2 h4 hme
  have ol1 : 1 ≤ (intsV (othersOf n me)).length := by rw [intsV_len]; exact ol.1
  have ol2 : (intsV (othersOf n me)).length ≤ 1000 := by rw [intsV_len]; omega
  have z1 : 1 ≤ sizeLine := by decide
  have z2 : 2 ≤ sizeLine := by decide
  have z3 : 3 ≤ sizeLine := by decide
  have z4 : 4 ≤ sizeLine := by decide
  have z5 : 5 ≤ sizeLine := by decide
  have o2 : 1 ≤ 2 := by decide
  have t2 : 2 ≤ 1000 := by decide
  have o3 : 1 ≤ 3 := by decide
  have t3 : 3 ≤ 1000 := by decide
  have isAB : ∀ x : V, x ∈ [V.str "a", V.str "b"] → ∃ b ∈ boxes, ∀ H', Rep H' (.at b) x := fun x hx => by
    simp only [List.mem_cons, List.not_mem_nil, or_false] at hx
    rcases hx with rfl | rfl
    · exact ⟨.str [97], by decide, fun _ => rep_str sA⟩
    · exact ⟨.str [98], by decide, fun _ => rep_str sB⟩
  have isTU : ∀ x : V, x ∈ [V.str "t", V.str "u"] → ∃ b ∈ tickets, ∀ H', Rep H' (.at b) x := fun x hx => by
    simp only [List.mem_cons, List.not_mem_nil, or_false] at hx
    rcases hx with rfl | rfl
    · exact ⟨.str [116], by decide, fun _ => rep_str sTt⟩
    · exact ⟨.str [117], by decide, fun _ => rep_str sU⟩
  refine ⟨_, rfl, (n : Int), rfl, (by omega), (by omega), ?_⟩
  refine comp_go (n := n) (fun j ys H' => H' = H ∧ ys = intsV (((List.range j).filter (· ≠ me)).map fun (k : Nat) => (k : Int))) ⟨rfl, rfl⟩ ?_ ?_
  · rintro j ys _ hj ⟨rfl, rfl⟩
    refine ⟨hj, ?_, ?_⟩
    · have h1 := List.length_filter_le (fun x => decide (x ≠ me)) (List.range j)
      rw [List.length_range] at h1
      unfold intsV
      rw [List.length_map, List.length_map]
      exact Nat.lt_of_le_of_lt h1 (small1000 (by omega))
    · rintro x _ ⟨rfl, rfl⟩
      refine ⟨_, rfl, _, rfl, rfl, _, rfl, ite2 (fun c => ⟨_, rfl, Wc.next hj ⟨rfl, ?_⟩⟩) (fun c => Wc.next hj ⟨rfl, ?_⟩)⟩
      · have hne : j ≠ me := fun z => by subst z; simp at c
        rw [others_step, if_pos hne]; simp [intsV]
      · have he : j = me := by
          have z : V.int (0 + (j : Int)) = V.int (me : Int) := by simpa using c
          injection z with z; omega
        rw [others_step, if_neg (by simpa using he)]; simp
  rintro ys H' ⟨hH, rfl⟩
  have hH := hH.symm
  subst hH
  refine ⟨Nat.le_refl _, fun o ho => ?_⟩
  have s1 : Same H (upd H o (.lst (intsV (othersOf n me)))) := same_new ho _
  have at1 : AtK H (upd H o (.lst (intsV (othersOf n me)))) t ns.length c 0 := ⟨Kept.of s1, by rw [show c + ((0 : Nat) : Int) = c by omega]; exact dr.tn.same s1⟩
  have hot : o ≠ t := dr.tn.ne ho
  refine ⟨_, rfl, _, rfl, a, t, ns, _, 16, rfl, at1.dr dr hc', by decide, by decide, fun way H2 w0 w1 k2 tn2 => ?_⟩
  have at2 := at1.step k2 tn2
  have ho2 : H2 o = some (.lst (intsV (othersOf n me))) := k2 _ _ hot upd_same
  refine ⟨_, rfl, _, _, rfl, rfl, _, rfl, ite2 (fun c5 => ?_) (fun c5 => ?_)⟩
  · refine ⟨_, rfl, _, rfl, _, rfl, a, t, ns, _, o, _, rfl, at2.dr dr hc', hot, ho2, ol1, ol2, fun x3 H3 hx3 k3 tn3 => ?_⟩
    have at3 := at2.step k3 tn3
    obtain ⟨i3, hi3, rfl⟩ := List.mem_map.mp hx3
    refine ⟨_, rfl, _, rfl, a, t, ns, _, 2, rfl, at3.dr dr hc', by decide, by decide, fun m4 H4 m40 m41 k4 tn4 => ?_⟩
    have at4 := at3.step k4 tn4
    refine ⟨_, rfl, _, rfl, a, t, ns, _, rfl, at4.dr dr hc', fun y5 v5 H5 hy5 r5 k5 tn5 => ?_⟩
    have at5 := at4.step k5 tn5
    refine ⟨z4, fun p hp => ?_⟩
    have mm : [.str wSend, .int i3, .int m4, y5] ∈ flats (othersOf n me) := mem_send hi3 (by omega) hy5
    exact q (.ref p) _ _ (by omega) (at5.same (same_new hp _)) ⟨.flat [.str wSend, .int i3, .int m4, y5], fun _ => ⟨_, mm, rfl⟩, .flat mm, Rep.mk upd_same (Reps.cons (rep_str sSend) (Reps.cons (show _ = _ from rfl) (Reps.cons (show _ = _ from rfl) (Reps.cons (rep_at r5) (Reps.nil)))))⟩
  refine ⟨_, rfl, _, rfl, z3, fun l3 hl3 => ⟨a, t, ns, _, l3, _, rfl, (at2.same (same_new hl3 _)).dr dr hc', at2.ne hl3, upd_same, o3, t3, fun mk H3 hmk k3 tn3 => ?_⟩⟩
  have at3 := (at2.same (same_new hl3 _)).step k3 tn3
  have ho3 : H3 o = some (.lst (intsV (othersOf n me))) := k3 _ _ hot (same_new hl3 _ _ _ ho2)
  obtain ⟨am, ham, rmk⟩ : ∃ am ∈ marks, ∀ H', Rep H' (.at am) mk := by
    simp only [List.mem_cons, List.not_mem_nil, or_false] at hmk
    rcases hmk with rfl | rfl | rfl
    · exact ⟨.int 0, by decide, fun _ => rfl⟩
    · exact ⟨.int 1, by decide, fun _ => rfl⟩
    · exact ⟨.non, by decide, fun _ => rfl⟩
  refine ⟨_, rfl, _, rfl, _, rfl, a, t, ns, _, o, _, rfl, at3.dr dr hc', hot, ho3, ol1, ol2, fun x4 H4 hx4 k4 tn4 => ?_⟩
  have at4 := at3.step k4 tn4
  obtain ⟨i4, hi4, rfl⟩ := List.mem_map.mp hx4
  refine ⟨_, rfl, _, rfl, iteT ⟨_, rfl, _, rfl, a, t, ns, _, 2, rfl, at4.dr dr hc', by decide, by decide, fun zz5 H5 z50 z51 k5 tn5 => ⟨rfl, _, rfl, ite2 (fun c6 => ?_) (fun c6 => ?_)⟩⟩⟩
  · have haw : Atom.non ∈ whences (othersOf n me) := by simp [whences]
    have raw : ∀ H', Rep H' (.at .non) V.non := fun _ => rfl
    obtain ⟨aw, eaw⟩ : ∃ aw, aw = Atom.non := ⟨_, rfl⟩
    rw [← eaw] at haw
    have raw : ∀ H', Rep H' (.at aw) V.non := fun _ => by rw [eaw]; rfl
    have at5 := at4.step k5 tn5
    refine ⟨_, rfl, _, _, rfl, rfl, _, rfl, ite2 (fun c9 => ?_) (fun c9 => ?_)⟩
    · refine ⟨_, rfl, _, rfl, ?_⟩
      refine ⟨_, rfl, _, rfl, z2, fun l6 hl6 => ⟨a, t, ns, _, l6, _, rfl, (at5.same (same_new hl6 _)).dr dr hc', at5.ne hl6, upd_same, o2, t2, fun x6 H6 hx6 k6 tn6 => ?_⟩⟩
      have at6 := (at5.same (same_new hl6 _)).step k6 tn6
      obtain ⟨b6, hb6, rb6⟩ := isAB x6 hx6
      refine ⟨z4, fun p hp => ?_⟩
      have mm : [.str wTake, aw, am, b6] ∈ flats (othersOf n me) := mem_take haw ham hb6
      exact q (.ref p) _ _ (by omega) (at6.same (same_new hp _)) ⟨.flat [.str wTake, aw, am, b6], fun _ => ⟨_, mm, rfl⟩, .flat mm, Rep.mk upd_same (Reps.cons (rep_str sTake) (Reps.cons (raw _) (Reps.cons (rmk _) (Reps.cons (rb6 _) (Reps.nil)))))⟩
    refine ⟨_, rfl, rfl, _, rfl, ite2 (fun _ => ?_) (fun _ => ?_)⟩
    · skip
      refine ⟨_, rfl, _, rfl, z2, fun l6 hl6 => ⟨a, t, ns, _, l6, _, rfl, (at5.same (same_new hl6 _)).dr dr hc', at5.ne hl6, upd_same, o2, t2, fun x6 H6 hx6 k6 tn6 => ?_⟩⟩
      have at6 := (at5.same (same_new hl6 _)).step k6 tn6
      obtain ⟨b6, hb6, rb6⟩ := isTU x6 hx6
      refine ⟨_, rfl, _, rfl, ?_⟩
      refine ⟨_, rfl, _, rfl, z2, fun l7 hl7 => ⟨a, t, ns, _, l7, _, rfl, (at6.same (same_new hl7 _)).dr dr hc', at6.ne hl7, upd_same, o2, t2, fun x7 H7 hx7 k7 tn7 => ?_⟩⟩
      have at7 := (at6.same (same_new hl7 _)).step k7 tn7
      obtain ⟨b7, hb7, rb7⟩ := isAB x7 hx7
      refine ⟨z5, fun p hp => ?_⟩
      have mm : [.str wPost, b6, aw, am, b7] ∈ flats (othersOf n me) := mem_post hb6 haw ham hb7
      exact q (.ref p) _ _ (by omega) (at7.same (same_new hp _)) ⟨.flat [.str wPost, b6, aw, am, b7], fun _ => ⟨_, mm, rfl⟩, .flat mm, Rep.mk upd_same (Reps.cons (rep_str sPost) (Reps.cons (rb6 _) (Reps.cons (raw _) (Reps.cons (rmk _) (Reps.cons (rb7 _) (Reps.nil))))))⟩
    refine ⟨_, rfl, rfl, _, rfl, ite2 (fun _ => ?_) (fun _ => ?_)⟩
    · skip
      refine ⟨_, rfl, _, rfl, z2, fun l6 hl6 => ⟨a, t, ns, _, l6, _, rfl, (at5.same (same_new hl6 _)).dr dr hc', at5.ne hl6, upd_same, o2, t2, fun x6 H6 hx6 k6 tn6 => ?_⟩⟩
      have at6 := (at5.same (same_new hl6 _)).step k6 tn6
      obtain ⟨b6, hb6, rb6⟩ := isTU x6 hx6
      refine ⟨z2, fun p hp => ?_⟩
      have mm : [.str wWait, b6] ∈ flats (othersOf n me) := mem_wait hb6
      exact q (.ref p) _ _ (by omega) (at6.same (same_new hp _)) ⟨.flat [.str wWait, b6], fun _ => ⟨_, mm, rfl⟩, .flat mm, Rep.mk upd_same (Reps.cons (rep_str sWait) (Reps.cons (rb6 _) (Reps.nil)))⟩
    refine ⟨_, rfl, rfl, _, rfl, ite2 (fun _ => ?_) (fun _ => ?_)⟩
    · skip
      refine ⟨_, rfl, _, rfl, z2, fun l6 hl6 => ⟨a, t, ns, _, l6, _, rfl, (at5.same (same_new hl6 _)).dr dr hc', at5.ne hl6, upd_same, o2, t2, fun x6 H6 hx6 k6 tn6 => ?_⟩⟩
      have at6 := (at5.same (same_new hl6 _)).step k6 tn6
      obtain ⟨b6, hb6, rb6⟩ := isAB x6 hx6
      refine ⟨_, rfl, _, rfl, a, t, ns, _, rfl, at6.dr dr hc', fun y7 v7 H7 hy7 r7 k7 tn7 => ?_⟩
      have at7 := at6.step k7 tn7
      refine ⟨_, rfl, _, rfl, a, t, ns, _, rfl, at7.dr dr hc', fun y8 v8 H8 hy8 r8 k8 tn8 => ?_⟩
      have at8 := at7.step k8 tn8
      refine ⟨z4, fun p hp => ?_⟩
      have mm : [.str wAdd, b6, y7, y8] ∈ flats (othersOf n me) := mem_add hb6 hy7 hy8
      exact q (.ref p) _ _ (by omega) (at8.same (same_new hp _)) ⟨.flat [.str wAdd, b6, y7, y8], fun _ => ⟨_, mm, rfl⟩, .flat mm, Rep.mk upd_same (Reps.cons (rep_str sAdd) (Reps.cons (rb6 _) (Reps.cons (rep_at r7) (Reps.cons (rep_at r8) (Reps.nil)))))⟩
    refine ⟨_, rfl, rfl, _, rfl, ite2 (fun c12 => ⟨_, rfl, _, _, rfl, rfl, _, rfl, ite2 (fun cd => ?_) (fun cd => ?_)⟩) (fun c12 => iteF ?_)⟩
    · have hd1 : d = 1 := by
        have z : (0 : Int) < ((d + 1 : Nat) : Int) - 1 := of_decide_eq_true cd
        omega
      subst hd1
      refine ⟨2, rfl, by decide, by decide, ?_⟩
      refine comp_go (n := 2) (fun j ys H' => ∃ kk, kk ≤ 4 + 20 * j ∧ AtK H H' t ns.length c kk ∧ ∃ its : List (List Atom), its.length = j ∧ (∀ r ∈ its, r ∈ flats (othersOf n me)) ∧ Reps H' (its.map fun r => .tup (atoms r)) ys) ⟨4, by decide, at5, [], rfl, fun _ z => (by cases z), Reps.nil⟩ ?_ ?_
      · rintro j ys H6 hj ⟨kk, hkk, at6, its, hits, hfl, rys⟩
        have ly := rys.len
        rw [List.length_map] at ly
        refine ⟨hj, small1000 (by omega), ?_⟩
        rintro x _ ⟨rfl, rfl⟩
        refine turn1 ?_
        refine ⟨_, rfl, _, rfl, _, rfl, _, rfl, _, rfl, a, t, ns, c + kk, n, me, rfl, Nat.le_refl _, at6.dr dr hc', by omega, h2, h4, hme, fun v k H7 hk at7 ⟨dr7, hdr, _, rv⟩ => Wc.next hj ?_⟩
        obtain ⟨it7, hm7, rfl⟩ := hdr rfl
        have at67 := at6.trans at7
        refine ⟨kk + k, by omega, at67, its ++ [it7], by simp [hits], fun r hr => ?_, ?_⟩
        · rcases List.mem_append.mp hr with z | z
          · exact hfl r z
          · rw [List.mem_singleton.mp z]; exact hm7
        · rw [List.map_append]; exact ((at7.kept.tups at6.tn).reps rys).append (Reps.one rv)
      rintro ys H6 ⟨kk, hkk, at6, its, hits, hfl, rys⟩
      obtain ⟨r1, r2, rfl⟩ : ∃ r1 r2, its = [r1, r2] := by
        match its, hits with
        | [r1, r2], _ => exact ⟨r1, r2, rfl⟩
      obtain ⟨v1, v2, rfl, rv1, rv2⟩ : ∃ v1 v2, ys = [v1, v2] ∧ Rep H6 (.tup (atoms r1)) v1 ∧ Rep H6 (.tup (atoms r2)) v2 := by
        simp only [List.map_cons, List.map_nil, Reps] at rys
        obtain ⟨v1, _, rfl, h1, v2, _, rfl, h2, rfl⟩ := rys
        exact ⟨v1, v2, rfl, h1, h2⟩
      refine ⟨Nat.le_refl _, fun rl hrl => ?_⟩
      have srl := same_new hrl (.lst [v1, v2])
      have at6' := at6.same srl
      have rlt : rl ≠ t := at6.ne hrl
      refine ⟨_, rfl, _, rfl, z3, fun l7 hl7 => ⟨a, t, ns, _, l7, _, rfl, (at6'.same (same_new hl7 _)).dr dr hc', at6'.ne hl7, upd_same, o3, t3, fun x7 H7 hx7 k7 tn7 => ?_⟩⟩
      have at7 := (at6'.same (same_new hl7 _)).step k7 tn7
      obtain ⟨n7, rfl, hn7⟩ : ∃ n7 : Int, x7 = .int n7 ∧ (n7 = 0 ∨ n7 = 1 ∨ n7 = 2) := by
        simp only [List.mem_cons, List.not_mem_nil, or_false] at hx7
        rcases hx7 with rfl | rfl | rfl
        · exact ⟨0, rfl, .inl rfl⟩
        · exact ⟨1, rfl, .inr (.inl rfl)⟩
        · exact ⟨2, rfl, .inr (.inr rfl)⟩
      have hrl7 : H7 rl = some (.lst [v1, v2]) := k7 _ _ rlt (same_new hl7 _ _ _ upd_same)
      refine ⟨_, rfl, _, rfl, z2, fun l8 hl8 => ⟨a, t, ns, _, l8, _, rfl, (at7.same (same_new hl8 _)).dr dr hc', at7.ne hl8, upd_same, o2, t2, fun x8 H8 hx8 k8 tn8 => ?_⟩⟩
      have at8 := (at7.same (same_new hl8 _)).step k8 tn8
      obtain ⟨b8, hb8, rb8⟩ := isAB x8 hx8
      have hrl8 : H8 rl = some (.lst [v1, v2]) := k8 _ _ rlt (same_new hl8 _ _ _ hrl7)
      have t68 : Tups H6 H8 := srl.tups.trans ((same_new hl7 _).tups.trans ((k7.tups (at6'.same (same_new hl7 _)).tn).trans ((same_new hl8 _).tups.trans (k8.tups (at7.same (same_new hl8 _)).tn))))
      refine ⟨_, rfl, _, rfl, 1, rfl, rl, _, rfl, SqL.of hrl8, fun p9 hp9 => ⟨p9, _, rfl, .inl ⟨SqL.of upd_same, fun u9 hu9 => ?_⟩⟩⟩
      have s9 := (same_new hp9 (.lst [v1])).trans (same_new hu9 (.tup [v1]))
      refine ⟨_, rfl, 1, rfl, rl, _, rfl, SqL.of (s9 _ _ hrl8), fun p10 hp10 => ⟨p10, _, rfl, .inl ⟨SqL.of upd_same, fun u10 hu10 => ?_⟩⟩⟩
      have s10 := (same_new hp10 (.lst [v2])).trans (same_new hu10 (.tup [v2]))
      refine ⟨z5, fun p hp => ?_⟩
      have sp := same_new hp (.tup [V.str "case", x8, V.int n7, V.ref u9, V.ref u10])
      have tall := t68.trans ((s9.trans (s10.trans sp)).tups)
      have hr1 := hfl r1 (by simp)
      have hr2 := hfl r2 (by simp)
      refine q (.ref p) _ _ (by omega) ((at8.same s9).same (s10.trans sp)) ⟨.cas [.str wCase, b8, .int n7] r1 r2, fun z => (by omega), .cas (mem_head hb8 hn7) hr1 hr2, Rep.mk upd_same ?_⟩
      exact Reps.cons (rep_str sCase) (Reps.cons (rb8 _) (Reps.cons (show _ = _ from rfl) (Reps.cons (Rep.mk (sp _ _ (s10 _ _ upd_same)) (Reps.one (tall.rep rv1))) (Reps.cons (Rep.mk (sp _ _ upd_same) (Reps.one (tall.rep rv2))) (Reps.nil)))))
    · skip
      refine ⟨_, rfl, rfl, _, rfl, ite2 (fun _ => ?_) (fun _ => ?_)⟩
      · refine ⟨_, rfl, _, rfl, z1, fun q1 hq1 => ⟨z2, fun q2 hq2 => ⟨z2, fun l6 hl6 => ?_⟩⟩⟩
        have sq := (same_new hq1 (.tup [V.str "all"])).trans ((same_new hq2 (.tup [V.str "tell", V.int 5])).trans (same_new hl6 (.lst [V.ref q1, V.ref q2])))
        have sq2 := (same_new hq2 (.tup [V.str "tell", V.int 5])).trans (same_new hl6 (.lst [V.ref q1, V.ref q2]))
        refine ⟨a, t, ns, _, l6, _, rfl, (at5.same sq).dr dr hc', (at5.same ((same_new hq1 (.tup [V.str "all"])).trans (same_new hq2 (.tup [V.str "tell", V.int 5])))).ne hl6, upd_same, o2, t2, fun x6 H6 hx6 k6 tn6 => ?_⟩
        have at6 := (at5.same sq).step k6 tn6
        have tu := k6.tups (at5.same sq).tn
        simp only [List.mem_cons, List.not_mem_nil, or_false] at hx6
        rcases hx6 with rfl | rfl
        · have mm : [.str wAll] ∈ flats (othersOf n me) := mem_two (.inl rfl)
          exact q _ _ _ (by omega) at6 ⟨.flat [.str wAll], fun _ => ⟨_, mm, rfl⟩, .flat mm, Rep.mk (tu _ _ (sq2 _ _ upd_same)) (Reps.cons (rep_str sAll) (Reps.nil))⟩
        · have mm : [.str wTell, .int 5] ∈ flats (othersOf n me) := mem_two (.inr rfl)
          exact q _ _ _ (by omega) at6 ⟨.flat [.str wTell, .int 5], fun _ => ⟨_, mm, rfl⟩, .flat mm, Rep.mk (tu _ _ ((same_new hl6 (.lst [V.ref q1, V.ref q2])) _ _ upd_same)) (Reps.cons (rep_str sTell) (Reps.cons (show _ = _ from rfl) (Reps.nil)))⟩
      · skip
        refine ⟨_, rfl, _, rfl, a, t, ns, _, rfl, at5.dr dr hc', fun y6 v6 H6 hy6 r6 k6 tn6 => ?_⟩
        have at6 := at5.step k6 tn6
        refine ⟨z2, fun p hp => ?_⟩
        have mm : [.str wTell, y6] ∈ flats (othersOf n me) := mem_tell hy6
        exact q (.ref p) _ _ (by omega) (at6.same (same_new hp _)) ⟨.flat [.str wTell, y6], fun _ => ⟨_, mm, rfl⟩, .flat mm, Rep.mk upd_same (Reps.cons (rep_str sTell) (Reps.cons (rep_at r6) (Reps.nil)))⟩
    · skip
      refine ⟨_, rfl, rfl, _, rfl, ite2 (fun _ => ?_) (fun _ => ?_)⟩
      · refine ⟨_, rfl, _, rfl, z1, fun q1 hq1 => ⟨z2, fun q2 hq2 => ⟨z2, fun l6 hl6 => ?_⟩⟩⟩
        have sq := (same_new hq1 (.tup [V.str "all"])).trans ((same_new hq2 (.tup [V.str "tell", V.int 5])).trans (same_new hl6 (.lst [V.ref q1, V.ref q2])))
        have sq2 := (same_new hq2 (.tup [V.str "tell", V.int 5])).trans (same_new hl6 (.lst [V.ref q1, V.ref q2]))
        refine ⟨a, t, ns, _, l6, _, rfl, (at5.same sq).dr dr hc', (at5.same ((same_new hq1 (.tup [V.str "all"])).trans (same_new hq2 (.tup [V.str "tell", V.int 5])))).ne hl6, upd_same, o2, t2, fun x6 H6 hx6 k6 tn6 => ?_⟩
        have at6 := (at5.same sq).step k6 tn6
        have tu := k6.tups (at5.same sq).tn
        simp only [List.mem_cons, List.not_mem_nil, or_false] at hx6
        rcases hx6 with rfl | rfl
        · have mm : [.str wAll] ∈ flats (othersOf n me) := mem_two (.inl rfl)
          exact q _ _ _ (by omega) at6 ⟨.flat [.str wAll], fun _ => ⟨_, mm, rfl⟩, .flat mm, Rep.mk (tu _ _ (sq2 _ _ upd_same)) (Reps.cons (rep_str sAll) (Reps.nil))⟩
        · have mm : [.str wTell, .int 5] ∈ flats (othersOf n me) := mem_two (.inr rfl)
          exact q _ _ _ (by omega) at6 ⟨.flat [.str wTell, .int 5], fun _ => ⟨_, mm, rfl⟩, .flat mm, Rep.mk (tu _ _ ((same_new hl6 (.lst [V.ref q1, V.ref q2])) _ _ upd_same)) (Reps.cons (rep_str sTell) (Reps.cons (show _ = _ from rfl) (Reps.nil)))⟩
      · skip
        refine ⟨_, rfl, _, rfl, a, t, ns, _, rfl, at5.dr dr hc', fun y6 v6 H6 hy6 r6 k6 tn6 => ?_⟩
        have at6 := at5.step k6 tn6
        refine ⟨z2, fun p hp => ?_⟩
        have mm : [.str wTell, y6] ∈ flats (othersOf n me) := mem_tell hy6
        exact q (.ref p) _ _ (by omega) (at6.same (same_new hp _)) ⟨.flat [.str wTell, y6], fun _ => ⟨_, mm, rfl⟩, .flat mm, Rep.mk upd_same (Reps.cons (rep_str sTell) (Reps.cons (rep_at r6) (Reps.nil)))⟩
  · have haw : Atom.int i4 ∈ whences (othersOf n me) := by simp [whences]; exact hi4
    obtain ⟨aw, eaw⟩ : ∃ aw, aw = Atom.int i4 := ⟨_, rfl⟩
    rw [← eaw] at haw
    have raw : ∀ H', Rep H' (.at aw) (V.int i4) := fun _ => by rw [eaw]; rfl
    have at5 := at4.step k5 tn5
    refine ⟨_, rfl, _, _, rfl, rfl, _, rfl, ite2 (fun c9 => ?_) (fun c9 => ?_)⟩
    · refine ⟨_, rfl, _, rfl, ?_⟩
      refine ⟨_, rfl, _, rfl, z2, fun l6 hl6 => ⟨a, t, ns, _, l6, _, rfl, (at5.same (same_new hl6 _)).dr dr hc', at5.ne hl6, upd_same, o2, t2, fun x6 H6 hx6 k6 tn6 => ?_⟩⟩
      have at6 := (at5.same (same_new hl6 _)).step k6 tn6
      obtain ⟨b6, hb6, rb6⟩ := isAB x6 hx6
      refine ⟨z4, fun p hp => ?_⟩
      have mm : [.str wTake, aw, am, b6] ∈ flats (othersOf n me) := mem_take haw ham hb6
      exact q (.ref p) _ _ (by omega) (at6.same (same_new hp _)) ⟨.flat [.str wTake, aw, am, b6], fun _ => ⟨_, mm, rfl⟩, .flat mm, Rep.mk upd_same (Reps.cons (rep_str sTake) (Reps.cons (raw _) (Reps.cons (rmk _) (Reps.cons (rb6 _) (Reps.nil)))))⟩
    refine ⟨_, rfl, rfl, _, rfl, ite2 (fun _ => ?_) (fun _ => ?_)⟩
    · skip
      refine ⟨_, rfl, _, rfl, z2, fun l6 hl6 => ⟨a, t, ns, _, l6, _, rfl, (at5.same (same_new hl6 _)).dr dr hc', at5.ne hl6, upd_same, o2, t2, fun x6 H6 hx6 k6 tn6 => ?_⟩⟩
      have at6 := (at5.same (same_new hl6 _)).step k6 tn6
      obtain ⟨b6, hb6, rb6⟩ := isTU x6 hx6
      refine ⟨_, rfl, _, rfl, ?_⟩
      refine ⟨_, rfl, _, rfl, z2, fun l7 hl7 => ⟨a, t, ns, _, l7, _, rfl, (at6.same (same_new hl7 _)).dr dr hc', at6.ne hl7, upd_same, o2, t2, fun x7 H7 hx7 k7 tn7 => ?_⟩⟩
      have at7 := (at6.same (same_new hl7 _)).step k7 tn7
      obtain ⟨b7, hb7, rb7⟩ := isAB x7 hx7
      refine ⟨z5, fun p hp => ?_⟩
      have mm : [.str wPost, b6, aw, am, b7] ∈ flats (othersOf n me) := mem_post hb6 haw ham hb7
      exact q (.ref p) _ _ (by omega) (at7.same (same_new hp _)) ⟨.flat [.str wPost, b6, aw, am, b7], fun _ => ⟨_, mm, rfl⟩, .flat mm, Rep.mk upd_same (Reps.cons (rep_str sPost) (Reps.cons (rb6 _) (Reps.cons (raw _) (Reps.cons (rmk _) (Reps.cons (rb7 _) (Reps.nil))))))⟩
    refine ⟨_, rfl, rfl, _, rfl, ite2 (fun _ => ?_) (fun _ => ?_)⟩
    · skip
      refine ⟨_, rfl, _, rfl, z2, fun l6 hl6 => ⟨a, t, ns, _, l6, _, rfl, (at5.same (same_new hl6 _)).dr dr hc', at5.ne hl6, upd_same, o2, t2, fun x6 H6 hx6 k6 tn6 => ?_⟩⟩
      have at6 := (at5.same (same_new hl6 _)).step k6 tn6
      obtain ⟨b6, hb6, rb6⟩ := isTU x6 hx6
      refine ⟨z2, fun p hp => ?_⟩
      have mm : [.str wWait, b6] ∈ flats (othersOf n me) := mem_wait hb6
      exact q (.ref p) _ _ (by omega) (at6.same (same_new hp _)) ⟨.flat [.str wWait, b6], fun _ => ⟨_, mm, rfl⟩, .flat mm, Rep.mk upd_same (Reps.cons (rep_str sWait) (Reps.cons (rb6 _) (Reps.nil)))⟩
    refine ⟨_, rfl, rfl, _, rfl, ite2 (fun _ => ?_) (fun _ => ?_)⟩
    · skip
      refine ⟨_, rfl, _, rfl, z2, fun l6 hl6 => ⟨a, t, ns, _, l6, _, rfl, (at5.same (same_new hl6 _)).dr dr hc', at5.ne hl6, upd_same, o2, t2, fun x6 H6 hx6 k6 tn6 => ?_⟩⟩
      have at6 := (at5.same (same_new hl6 _)).step k6 tn6
      obtain ⟨b6, hb6, rb6⟩ := isAB x6 hx6
      refine ⟨_, rfl, _, rfl, a, t, ns, _, rfl, at6.dr dr hc', fun y7 v7 H7 hy7 r7 k7 tn7 => ?_⟩
      have at7 := at6.step k7 tn7
      refine ⟨_, rfl, _, rfl, a, t, ns, _, rfl, at7.dr dr hc', fun y8 v8 H8 hy8 r8 k8 tn8 => ?_⟩
      have at8 := at7.step k8 tn8
      refine ⟨z4, fun p hp => ?_⟩
      have mm : [.str wAdd, b6, y7, y8] ∈ flats (othersOf n me) := mem_add hb6 hy7 hy8
      exact q (.ref p) _ _ (by omega) (at8.same (same_new hp _)) ⟨.flat [.str wAdd, b6, y7, y8], fun _ => ⟨_, mm, rfl⟩, .flat mm, Rep.mk upd_same (Reps.cons (rep_str sAdd) (Reps.cons (rb6 _) (Reps.cons (rep_at r7) (Reps.cons (rep_at r8) (Reps.nil)))))⟩
    refine ⟨_, rfl, rfl, _, rfl, ite2 (fun c12 => ⟨_, rfl, _, _, rfl, rfl, _, rfl, ite2 (fun cd => ?_) (fun cd => ?_)⟩) (fun c12 => iteF ?_)⟩
    · have hd1 : d = 1 := by
        have z : (0 : Int) < ((d + 1 : Nat) : Int) - 1 := of_decide_eq_true cd
        omega
      subst hd1
      refine ⟨2, rfl, by decide, by decide, ?_⟩
      refine comp_go (n := 2) (fun j ys H' => ∃ kk, kk ≤ 4 + 20 * j ∧ AtK H H' t ns.length c kk ∧ ∃ its : List (List Atom), its.length = j ∧ (∀ r ∈ its, r ∈ flats (othersOf n me)) ∧ Reps H' (its.map fun r => .tup (atoms r)) ys) ⟨4, by decide, at5, [], rfl, fun _ z => (by cases z), Reps.nil⟩ ?_ ?_
      · rintro j ys H6 hj ⟨kk, hkk, at6, its, hits, hfl, rys⟩
        have ly := rys.len
        rw [List.length_map] at ly
        refine ⟨hj, small1000 (by omega), ?_⟩
        rintro x _ ⟨rfl, rfl⟩
        refine turn1 ?_
        refine ⟨_, rfl, _, rfl, _, rfl, _, rfl, _, rfl, a, t, ns, c + kk, n, me, rfl, Nat.le_refl _, at6.dr dr hc', by omega, h2, h4, hme, fun v k H7 hk at7 ⟨dr7, hdr, _, rv⟩ => Wc.next hj ?_⟩
        obtain ⟨it7, hm7, rfl⟩ := hdr rfl
        have at67 := at6.trans at7
        refine ⟨kk + k, by omega, at67, its ++ [it7], by simp [hits], fun r hr => ?_, ?_⟩
        · rcases List.mem_append.mp hr with z | z
          · exact hfl r z
          · rw [List.mem_singleton.mp z]; exact hm7
        · rw [List.map_append]; exact ((at7.kept.tups at6.tn).reps rys).append (Reps.one rv)
      rintro ys H6 ⟨kk, hkk, at6, its, hits, hfl, rys⟩
      obtain ⟨r1, r2, rfl⟩ : ∃ r1 r2, its = [r1, r2] := by
        match its, hits with
        | [r1, r2], _ => exact ⟨r1, r2, rfl⟩
      obtain ⟨v1, v2, rfl, rv1, rv2⟩ : ∃ v1 v2, ys = [v1, v2] ∧ Rep H6 (.tup (atoms r1)) v1 ∧ Rep H6 (.tup (atoms r2)) v2 := by
        simp only [List.map_cons, List.map_nil, Reps] at rys
        obtain ⟨v1, _, rfl, h1, v2, _, rfl, h2, rfl⟩ := rys
        exact ⟨v1, v2, rfl, h1, h2⟩
      refine ⟨Nat.le_refl _, fun rl hrl => ?_⟩
      have srl := same_new hrl (.lst [v1, v2])
      have at6' := at6.same srl
      have rlt : rl ≠ t := at6.ne hrl
      refine ⟨_, rfl, _, rfl, z3, fun l7 hl7 => ⟨a, t, ns, _, l7, _, rfl, (at6'.same (same_new hl7 _)).dr dr hc', at6'.ne hl7, upd_same, o3, t3, fun x7 H7 hx7 k7 tn7 => ?_⟩⟩
      have at7 := (at6'.same (same_new hl7 _)).step k7 tn7
      obtain ⟨n7, rfl, hn7⟩ : ∃ n7 : Int, x7 = .int n7 ∧ (n7 = 0 ∨ n7 = 1 ∨ n7 = 2) := by
        simp only [List.mem_cons, List.not_mem_nil, or_false] at hx7
        rcases hx7 with rfl | rfl | rfl
        · exact ⟨0, rfl, .inl rfl⟩
        · exact ⟨1, rfl, .inr (.inl rfl)⟩
        · exact ⟨2, rfl, .inr (.inr rfl)⟩
      have hrl7 : H7 rl = some (.lst [v1, v2]) := k7 _ _ rlt (same_new hl7 _ _ _ upd_same)
      refine ⟨_, rfl, _, rfl, z2, fun l8 hl8 => ⟨a, t, ns, _, l8, _, rfl, (at7.same (same_new hl8 _)).dr dr hc', at7.ne hl8, upd_same, o2, t2, fun x8 H8 hx8 k8 tn8 => ?_⟩⟩
      have at8 := (at7.same (same_new hl8 _)).step k8 tn8
      obtain ⟨b8, hb8, rb8⟩ := isAB x8 hx8
      have hrl8 : H8 rl = some (.lst [v1, v2]) := k8 _ _ rlt (same_new hl8 _ _ _ hrl7)
      have t68 : Tups H6 H8 := srl.tups.trans ((same_new hl7 _).tups.trans ((k7.tups (at6'.same (same_new hl7 _)).tn).trans ((same_new hl8 _).tups.trans (k8.tups (at7.same (same_new hl8 _)).tn))))
      refine ⟨_, rfl, _, rfl, 1, rfl, rl, _, rfl, SqL.of hrl8, fun p9 hp9 => ⟨p9, _, rfl, .inl ⟨SqL.of upd_same, fun u9 hu9 => ?_⟩⟩⟩
      have s9 := (same_new hp9 (.lst [v1])).trans (same_new hu9 (.tup [v1]))
      refine ⟨_, rfl, 1, rfl, rl, _, rfl, SqL.of (s9 _ _ hrl8), fun p10 hp10 => ⟨p10, _, rfl, .inl ⟨SqL.of upd_same, fun u10 hu10 => ?_⟩⟩⟩
      have s10 := (same_new hp10 (.lst [v2])).trans (same_new hu10 (.tup [v2]))
      refine ⟨z5, fun p hp => ?_⟩
      have sp := same_new hp (.tup [V.str "case", x8, V.int n7, V.ref u9, V.ref u10])
      have tall := t68.trans ((s9.trans (s10.trans sp)).tups)
      have hr1 := hfl r1 (by simp)
      have hr2 := hfl r2 (by simp)
      refine q (.ref p) _ _ (by omega) ((at8.same s9).same (s10.trans sp)) ⟨.cas [.str wCase, b8, .int n7] r1 r2, fun z => (by omega), .cas (mem_head hb8 hn7) hr1 hr2, Rep.mk upd_same ?_⟩
      exact Reps.cons (rep_str sCase) (Reps.cons (rb8 _) (Reps.cons (show _ = _ from rfl) (Reps.cons (Rep.mk (sp _ _ (s10 _ _ upd_same)) (Reps.one (tall.rep rv1))) (Reps.cons (Rep.mk (sp _ _ upd_same) (Reps.one (tall.rep rv2))) (Reps.nil)))))
    · skip
      refine ⟨_, rfl, rfl, _, rfl, ite2 (fun _ => ?_) (fun _ => ?_)⟩
      · refine ⟨_, rfl, _, rfl, z1, fun q1 hq1 => ⟨z2, fun q2 hq2 => ⟨z2, fun l6 hl6 => ?_⟩⟩⟩
        have sq := (same_new hq1 (.tup [V.str "all"])).trans ((same_new hq2 (.tup [V.str "tell", V.int 5])).trans (same_new hl6 (.lst [V.ref q1, V.ref q2])))
        have sq2 := (same_new hq2 (.tup [V.str "tell", V.int 5])).trans (same_new hl6 (.lst [V.ref q1, V.ref q2]))
        refine ⟨a, t, ns, _, l6, _, rfl, (at5.same sq).dr dr hc', (at5.same ((same_new hq1 (.tup [V.str "all"])).trans (same_new hq2 (.tup [V.str "tell", V.int 5])))).ne hl6, upd_same, o2, t2, fun x6 H6 hx6 k6 tn6 => ?_⟩
        have at6 := (at5.same sq).step k6 tn6
        have tu := k6.tups (at5.same sq).tn
        simp only [List.mem_cons, List.not_mem_nil, or_false] at hx6
        rcases hx6 with rfl | rfl
        · have mm : [.str wAll] ∈ flats (othersOf n me) := mem_two (.inl rfl)
          exact q _ _ _ (by omega) at6 ⟨.flat [.str wAll], fun _ => ⟨_, mm, rfl⟩, .flat mm, Rep.mk (tu _ _ (sq2 _ _ upd_same)) (Reps.cons (rep_str sAll) (Reps.nil))⟩
        · have mm : [.str wTell, .int 5] ∈ flats (othersOf n me) := mem_two (.inr rfl)
          exact q _ _ _ (by omega) at6 ⟨.flat [.str wTell, .int 5], fun _ => ⟨_, mm, rfl⟩, .flat mm, Rep.mk (tu _ _ ((same_new hl6 (.lst [V.ref q1, V.ref q2])) _ _ upd_same)) (Reps.cons (rep_str sTell) (Reps.cons (show _ = _ from rfl) (Reps.nil)))⟩
      · skip
        refine ⟨_, rfl, _, rfl, a, t, ns, _, rfl, at5.dr dr hc', fun y6 v6 H6 hy6 r6 k6 tn6 => ?_⟩
        have at6 := at5.step k6 tn6
        refine ⟨z2, fun p hp => ?_⟩
        have mm : [.str wTell, y6] ∈ flats (othersOf n me) := mem_tell hy6
        exact q (.ref p) _ _ (by omega) (at6.same (same_new hp _)) ⟨.flat [.str wTell, y6], fun _ => ⟨_, mm, rfl⟩, .flat mm, Rep.mk upd_same (Reps.cons (rep_str sTell) (Reps.cons (rep_at r6) (Reps.nil)))⟩
    · skip
      refine ⟨_, rfl, rfl, _, rfl, ite2 (fun _ => ?_) (fun _ => ?_)⟩
      · refine ⟨_, rfl, _, rfl, z1, fun q1 hq1 => ⟨z2, fun q2 hq2 => ⟨z2, fun l6 hl6 => ?_⟩⟩⟩
        have sq := (same_new hq1 (.tup [V.str "all"])).trans ((same_new hq2 (.tup [V.str "tell", V.int 5])).trans (same_new hl6 (.lst [V.ref q1, V.ref q2])))
        have sq2 := (same_new hq2 (.tup [V.str "tell", V.int 5])).trans (same_new hl6 (.lst [V.ref q1, V.ref q2]))
        refine ⟨a, t, ns, _, l6, _, rfl, (at5.same sq).dr dr hc', (at5.same ((same_new hq1 (.tup [V.str "all"])).trans (same_new hq2 (.tup [V.str "tell", V.int 5])))).ne hl6, upd_same, o2, t2, fun x6 H6 hx6 k6 tn6 => ?_⟩
        have at6 := (at5.same sq).step k6 tn6
        have tu := k6.tups (at5.same sq).tn
        simp only [List.mem_cons, List.not_mem_nil, or_false] at hx6
        rcases hx6 with rfl | rfl
        · have mm : [.str wAll] ∈ flats (othersOf n me) := mem_two (.inl rfl)
          exact q _ _ _ (by omega) at6 ⟨.flat [.str wAll], fun _ => ⟨_, mm, rfl⟩, .flat mm, Rep.mk (tu _ _ (sq2 _ _ upd_same)) (Reps.cons (rep_str sAll) (Reps.nil))⟩
        · have mm : [.str wTell, .int 5] ∈ flats (othersOf n me) := mem_two (.inr rfl)
          exact q _ _ _ (by omega) at6 ⟨.flat [.str wTell, .int 5], fun _ => ⟨_, mm, rfl⟩, .flat mm, Rep.mk (tu _ _ ((same_new hl6 (.lst [V.ref q1, V.ref q2])) _ _ upd_same)) (Reps.cons (rep_str sTell) (Reps.cons (show _ = _ from rfl) (Reps.nil)))⟩
      · skip
        refine ⟨_, rfl, _, rfl, a, t, ns, _, rfl, at5.dr dr hc', fun y6 v6 H6 hy6 r6 k6 tn6 => ?_⟩
        have at6 := at5.step k6 tn6
        refine ⟨z2, fun p hp => ?_⟩
        have mm : [.str wTell, y6] ∈ flats (othersOf n me) := mem_tell hy6
        exact q (.ref p) _ _ (by omega) (at6.same (same_new hp _)) ⟨.flat [.str wTell, y6], fun _ => ⟨_, mm, rfl⟩, .flat mm, Rep.mk upd_same (Reps.cons (rep_str sTell) (Reps.cons (rep_at r6) (Reps.nil)))⟩
end
end W2

-- D14
set_option linter.all false
set_option maxRecDepth 100000
set_option maxHeartbeats 0
/-! _law_program -/
namespace W2
open PySem PySem.Spec PyProof.Rows K2 L2
section
variable {P : Program} {w : World} {K : PySem.W.Frag} {mg : Str → Option Value} {base : Heap}
theorem cut_four (xs : List V) : cutV xs none (some 4) = xs.take 4 := by
  unfold cutV
  have e := HT.sIx_nat xs.length xs.length 4
  rw [show ((4 : Nat) : Int) = 4 from rfl] at e
  rw [e, HT.sIx_none, Nat.sub_zero, List.drop_zero]
  by_cases h : 4 ≤ xs.length
  · rw [Nat.min_eq_left h]
  · rw [Nat.min_eq_right (by omega), List.take_length, List.take_of_length_le (by omega)]
theorem first_of {n me : Nat} (h2 : 2 ≤ n) (h4 : n ≤ 4) (hm : me < n) {d : DRow} (h : Row (othersOf n me) d) : ∃ x rest, d.pv = .tup (.at (.str x) :: rest) ∧ x.length ≤ 1000000 ∧ (x = wCase ↔ d.isCase = true) := by
  cases h with
  | @flat its h =>
    have g := flat_good h2 h4 hm h
    unfold goodFlat at g
    simp only [Bool.and_eq_true, decide_eq_true_eq] at g
    obtain ⟨⟨⟨⟨g1, g2⟩, g3⟩, g4⟩, g5⟩ := g
    obtain ⟨x, rest, ks, e, hf, _⟩ := isRow_shape g3
    have hl := (form_len hf).1
    refine ⟨x, rest, e, by omega, ?_⟩
    constructor
    · intro z
      cases its with
      | nil => simp at g1
      | cons a r =>
        injection e with e
        injection e with e1 e2
        injection e1 with e1
        exact absurd (by rw [e1, z]; rfl) g5
    · intro z; cases z
  | @cas hd r1 r2 h h1 h2 =>
    have g := List.all_eq_true.mp heads_good hd h
    simp only [Bool.and_eq_true, decide_eq_true_eq] at g
    obtain ⟨_, g5⟩ := g
    cases hd with
    | nil => cases g5
    | cons a r =>
      have ea : a = .str wCase := by simpa using g5
      subst ea
      exact ⟨wCase, _, rfl, by decide, ⟨fun _ => rfl, fun _ => rfl⟩⟩
def spLP (K : PySem.W.Frag) : Sp := fun vs H Q _ => ∃ a t ns c n, vs = [.ref a, .ref t, .int (n : Nat), .int 5, .bl true] ∧ Dr K H a t ns c ∧ c < 2 ^ 20 ∧ 2 ≤ n ∧ n ≤ 4 ∧
  ∀ v (k : Nat) H' dss, k ≤ 10000 → AtK H H' t ns.length c k → Scripts n dss → Rep H' (dProg (settle dss)) v → Q v H'
theorem ndLP1 : (["_law_k", "_law_script", "_law_town_here", "_law_hands", "_law_most_rows", "_law_wild", "_law_found", "_law_me", "_law_many"] : List Str).Nodup := by decide +kernel
theorem ndLP2 : (["_law_rows_here", "_law_script", "_law_town_here", "_law_hands", "_law_most_rows", "_law_wild", "_law_found", "_law_me", "_law_many"] : List Str).Nodup := by decide +kernel
theorem ndLP3 : (["_law_row_here", "_law_rows_here", "_law_script", "_law_town_here", "_law_hands", "_law_most_rows", "_law_wild", "_law_found", "_law_me", "_law_many"] : List Str).Nodup := by decide +kernel
theorem scLP : FnScope ["_law_script", "_law_town_here", "_law_hands", "_law_most_rows", "_law_wild", "_law_found", "_law_me", "_law_many"] ["_law_script", "_law_town_here", "_law_hands", "_law_most_rows", "_law_wild"] (defScope sLProgram) := ⟨rfl, rfl, rfl, by decide +kernel, rfl, by decide +kernel, by decide +kernel⟩
theorem ok_lprog {f : Addr} {fd : FuncData} (F : Fun K "_law_program" "_law_program" sLProgram f fd) (T : Tx mg) (hd : Has P w K mg base CX0 1 "_law_draw" ["_law_script", "_law_town_here", "_law_many"] (spDraw K))
    (hrow : Has P w K mg base CX0 5 "_law_row" ["_law_script", "_law_town_here", "_law_me", "_law_hands", "_law_wild", "_law_deep"] (spLR K 2)) (hprog : HasP P w K mg base 7 "is_program" isProg) :
    FnOk P w K mg base CX0 8 f fd ["_law_script", "_law_town_here", "_law_hands", "_law_most_rows", "_law_wild"] (spLP K) := by
  refine F.ok scLP (fun vs H Q E h => ?_) (fun cdv A outer s H vs Q E hr h => ?_)
  · obtain ⟨a, t, ns, c, n, rfl, _⟩ := h; rfl
  obtain ⟨a, t, ns, c, n, rfl, dr, hc, h2, h4, q⟩ := h
  refine ⟨_, (pss_cons (ps_set (i := 5) scLP.nd rfl (Or.inl rfl) (pe_lst pa_nil))
    (pss_cons (ps_for PassesOwn.never rfl (pi_range1 rfl T.range (pa_cons (pv 2) pa_nil)) (pg_name (i := 6) scLP.nd rfl (Or.inr rfl)) (pss_cons (ps_set (i := 7) scLP.nd rfl (Or.inl rfl) (pe_op op_add pe_int (pe_callH hd hr rfl pass0 (pa_cons (pv 0) (pa_cons (pv 1) (pa_cons (pv 3) pa_nil))))))
    (pss_one (ps_expr (pe_append (pv 5) (pe_callTy call_tuple_of rfl T.tuple boot_tuple (pa_cons (pe_comp (T := ["_law_k"]) (scopeIn_of (defScope sLProgram) ["_law_script", "_law_town_here", "_law_hands", "_law_most_rows", "_law_wild", "_law_found", "_law_me", "_law_many"] rfl rfl (by decide +kernel)) rfl (pi_range1 rfl T.range (pa_cons (pv 7) pa_nil)) (fun Y hY => by cases hY; exact pg_name (i := 0) ndLP1 rfl (Or.inl rfl)) firsts_one (fun Y _ => pifs_nil) (fun Y hY => by cases hY; exact pe_callH hrow hr rfl pass0 (pa_cons (pv 1) (pa_cons (pv 2) (pa_cons (pv 7) (pa_cons (pv 3) (pa_cons (pv 5) (pa_cons pe_int pa_nil)))))))) pa_nil)))))))
    (pss_cons (ps_if (pt_not (pt_val (pe_callH hprog hr rfl pass0 (pa_cons (pe_callTy call_tuple_of rfl T.tuple boot_tuple (pa_cons (pv 5) pa_nil)) pa_nil)))) (pss_one (ps_setComp (i := 5) (T := ["_law_rows_here"]) (scopeIn_own ["_law_script", "_law_town_here", "_law_hands", "_law_most_rows", "_law_wild", "_law_found", "_law_me", "_law_many"] rfl (by decide +kernel)) rfl scLP.nd rfl rfl (pi_list (pv 5)) (fun Y hY => by cases hY; exact pg_name (i := 0) ndLP2 rfl (Or.inl rfl)) firsts_one (fun Y _ => pifs_nil) (fun Y hY => by cases hY; exact (pe_callTy (call_tupleK K rfl) rfl T.tuple boot_tuple (pa_cons (pe_op op_cat (pe_comp (T := ["_law_row_here"]) (scopeIn_own ("_law_rows_here" :: ["_law_script", "_law_town_here", "_law_hands", "_law_most_rows", "_law_wild", "_law_found", "_law_me", "_law_many"]) rfl (by decide +kernel)) rfl (pi_tupK K rfl (pe_slice (sl_tupAK K rfl) (pv 0) po_none (po_some pe_int))) (fun Z hZ => by cases hZ; exact pg_name (i := 0) ndLP3 rfl (Or.inl rfl)) firsts_one (fun Z hZ => by cases hZ; exact pifs_one (pt_cmpR op_ne (pe_ix (ix_tupK K rfl) (pv 0) pe_int (fun _ _ => rfl)) pe_str (nomark _))) (fun Z hZ => by cases hZ; exact pv 0)) (pe_lst (pa_cons (pe_tup (pa_cons pe_str (pa_cons pe_int pa_nil))) pa_nil))) pa_nil))))) pss_nil)
    (pss_one (ps_ret (pe_callTy call_tuple_of rfl T.tuple boot_tuple (pa_cons (pv 5) pa_nil))))))), ?_⟩
  have z0 : 0 ≤ sizeLine := by decide
  have z1 : 1 ≤ sizeLine := by decide
  have z2 : 2 ≤ sizeLine := by decide
  have hc' : c < 2 ^ 30 := by omega
  refine ⟨z0, fun fo hfo => ?_⟩
  have s0 : Same H (upd H fo (.lst [])) := same_new hfo _
  have fot : fo ≠ t := dr.tn.ne hfo
  refine ⟨_, rfl, (n : Int), rfl, (by omega), (by omega), ?_⟩
  refine for_go (n := n) (fun i σ' H' => ∃ (kk : Nat) (r6 r7 : Option V) (vs : List V) (dss : List (List DRow)), kk ≤ 700 * i ∧ σ' = [some (.ref a), some (.ref t), some (.int (n : Int)), some (.int 5), some (.bl true), some (.ref fo), r6, r7] ∧ AtK H H' t ns.length c kk ∧ H' fo = some (.lst vs) ∧
    Reps H' (dss.map fun ds => .tup (ds.map DRow.pv)) vs ∧ dss.length = i ∧ ∀ (j : Nat) (ds : List DRow), dss[j]? = some ds → ds ≠ [] ∧ ∀ d ∈ ds, Row (othersOf n j) d) ?_ ?_ ?_
  · exact ⟨0, none, none, [], [], by omega, rfl, ⟨Kept.of s0, by rw [show c + ((0 : Nat) : Int) = c by omega]; exact dr.tn.same s0⟩, upd_same, Reps.nil, rfl, fun j ds e => by simp at e⟩
  · rintro i σ' H1 hi ⟨kk, r6, r7, vs, dss, hkk, rfl, at1, hf1, rvs, ldss, hrows⟩
    refine ⟨hi, ?_⟩
    rintro x _ ⟨rfl, rfl⟩
    rw [Int.zero_add]
    have lvs := rvs.len
    rw [List.length_map] at lvs
    refine ⟨_, rfl, _, rfl, _, rfl, a, t, ns, _, 5, rfl, at1.dr dr hc' (by omega), by decide, by decide, fun m H2 m0 m1 k2 tn2 => ⟨_, _, rfl, rfl, ?_⟩⟩
    have at2 := at1.step k2 tn2
    have hf2 : H2 fo = some (.lst vs) := k2 _ _ fot hf1
    have rvs2 := (k2.tups at1.tn).reps rvs
    refine ⟨_, rfl, .inl ⟨rfl, _, SqL.of hf2⟩, _, rfl, 1 + m, rfl, (by omega), (by omega), ?_⟩
    refine comp_go (n := (1 + m).toNat) (fun j ys H' => ∃ k3, k3 ≤ kk + 1 + 120 * j ∧ AtK H H' t ns.length c k3 ∧ H' fo = some (.lst vs) ∧ Reps H' (dss.map fun ds => .tup (ds.map DRow.pv)) vs ∧ ∃ ds : List DRow, ds.length = j ∧ (∀ d ∈ ds, Row (othersOf n i) d) ∧ Reps H' (ds.map DRow.pv) ys) ⟨kk + 1, by omega, at2, hf2, rvs2, [], rfl, fun _ z => (by cases z), Reps.nil⟩ ?_ ?_
    · rintro j ys H3 hj ⟨k3, hk3, at3, hf3, rvs3, ds, lds, hds, rys⟩
      have ly := rys.len
      rw [List.length_map] at ly
      refine ⟨hj, small1000 (by omega), ?_⟩
      rintro x _ ⟨rfl, rfl⟩
      refine turn1 ?_
      refine ⟨_, rfl, _, rfl, _, rfl, _, rfl, _, rfl, a, t, ns, c + k3, n, i, rfl, by decide, at3.dr dr hc' (by omega), by omega, h2, h4, hi, fun v k H4 hk at4 ⟨d4, _, hd4, rv⟩ => Wc.next hj ?_⟩
      have tu := at4.kept.tups at3.tn
      refine ⟨k3 + k, by omega, at3.trans at4, at4.kept _ _ fot hf3, tu.reps rvs3, ds ++ [d4], by simp [lds], fun d hd => ?_, ?_⟩
      · rcases List.mem_append.mp hd with z | z
        · exact hds d z
        · rw [List.mem_singleton.mp z]; exact hd4
      · rw [List.map_append]; exact (tu.reps rys).append (Reps.one rv)
    · rintro ys H3 ⟨k3, hk3, at3, hf3, rvs3, ds, lds, hds, rys⟩
      refine ⟨Nat.le_refl _, fun p hp => ?_⟩
      have s4 := same_new hp (.lst ys)
      refine ⟨p, _, rfl, .inl ⟨SqL.of upd_same, fun u hu => ?_⟩⟩
      have s5 := same_new hu (.tup ys)
      have hf5 := s5 _ _ (s4 _ _ hf3)
      refine ⟨fo, vs, _, rfl, rfl, hf5, small1000 (by omega), ?_⟩
      have t6 : Tups (upd (upd H3 p (.lst ys)) u (.tup ys)) (upd (upd (upd H3 p (.lst ys)) u (.tup ys)) fo (.lst (vs ++ [.ref u]))) := tups_lst hf5
      have t36 := (s4.trans s5).tups.trans t6
      have at5 := (at3.same s4).same s5
      have at6 : AtK H (upd (upd (upd H3 p (.lst ys)) u (.tup ys)) fo (.lst (vs ++ [.ref u]))) t ns.length c k3 := by
        obtain ⟨cells, ht5, hl5⟩ := at5.tn
        refine ⟨fun b o hb e => ?_, cells, by rw [upd_ne (Ne.symm fot)]; exact ht5, hl5⟩
        by_cases eb : b = fo
        · subst eb; rw [hfo] at e; cases e
        · rw [upd_ne eb]; exact at5.kept b o hb e
      refine ⟨k3, _, _, vs ++ [.ref u], dss ++ [ds], by omega, rfl, at6, upd_same, ?_, by simp [ldss], fun j ds' e => ?_⟩
      · rw [List.map_append]
        exact (t36.reps rvs3).append (Reps.one (Rep.mk (t6 _ _ upd_same) (t36.reps rys)))
      · by_cases hj : j < dss.length
        · rw [List.getElem?_append_left hj] at e; exact hrows j ds' e
        · rw [List.getElem?_append_right (by omega)] at e
          have hj0 : j - dss.length = 0 := by
            cases hq : j - dss.length with
            | zero => rfl
            | succ q => rw [hq] at e; simp at e
          rw [hj0] at e
          have e' : ds = ds' := by simpa using e
          subst e'
          have : j = i := by omega
          subst this
          exact ⟨fun z => by subst z; simp at lds; omega, hds⟩
  · rintro σ' H1 ⟨kk, r6, r7, vs, dss, hkk, rfl, at1, hf1, rvs, ldss, hrows⟩
    refine ⟨Nat.le_refl _, ?_⟩
    have lvs := rvs.len
    rw [List.length_map] at lvs
    have scr : Scripts n dss := ⟨ldss, hrows⟩
    refine ⟨_, rfl, fo, _, rfl, .inl ⟨SqL.of hf1, fun u hu => ?_⟩⟩
    have s2 := same_new hu (.tup vs)
    refine ⟨dProg dss, .ref u, rfl, Rep.mk upd_same (s2.reps rvs), fun H3 s3 => ⟨_, rfl, ?_⟩⟩
    have s13 := s2.trans s3
    have at3 := at1.same s13
    have hf3 := s13 _ _ hf1
    have rvs3 := s13.reps rvs
    cases hip : isProg (dProg dss) with
    | true =>
      refine iteF ⟨_, rfl, fo, _, rfl, .inl ⟨SqL.of hf3, fun u2 hu2 => ?_⟩⟩
      have s4 := same_new hu2 (.tup vs)
      refine q _ kk _ dss (by omega) (at3.same s4) scr ?_
      unfold K2.settle
      rw [if_pos hip]
      exact Rep.mk upd_same (s4.reps rvs3)
    | false =>
      refine iteT ⟨_, rfl, fo, rfl, ⟨_, SqL.of hf3⟩, ?_⟩
      refine comp_go (n := vs.length) (fun j ys H' => Same H3 H' ∧ Reps H' ((dss.take j).map fun ds => .tup ((trim ds).map DRow.pv)) ys) ⟨Same.refl _, Reps.nil⟩ ?_ ?_
      · rintro j ys H4 hj ⟨s4, rys⟩
        have ly := rys.len
        rw [List.length_map, List.length_take] at ly
        refine ⟨⟨_, _, SqL.of (s4 _ _ hf3), List.getElem?_eq_getElem hj⟩, small1000 (by omega), ?_⟩
        rintro x H4' ⟨hH4, hx⟩
        have hH4 := hH4.symm
        subst hH4
        have hx' := hx _ (SqL.of (s4 _ _ hf3))
        obtain ⟨p, hp, rp⟩ := (s4.reps rvs3).get hx'
        have hjd : j < dss.length := by omega
        rw [List.getElem?_map, List.getElem?_eq_getElem hjd] at hp
        have hp := Option.some.inj hp
        subst hp
        obtain ⟨hne, hrw⟩ := hrows j _ (List.getElem?_eq_getElem hjd)
        generalize hds : dss[j] = ds at rp hne hrw
        obtain ⟨b, ws, rfl, hb, rws⟩ := rp.tup
        have lws := rws.len
        rw [List.length_map] at lws
        refine turn1 ?_
        refine ⟨_, rfl, 4, rfl, b, ws, rfl, SqT.of hb, fun b2 H5 hor => ?_⟩
        have got : Same H4 H5 ∧ H5 b2 = some (.tup (ws.take 4)) := by
          rw [cut_four] at hor
          rcases hor with ⟨rfl, rfl, e⟩ | ⟨hn, rfl⟩
          · rw [e]; exact ⟨Same.refl _, hb⟩
          · exact ⟨same_new hn _, upd_same⟩
        obtain ⟨s5, hb5⟩ := got
        refine ⟨b2, rfl, ⟨_, SqT.of hb5⟩, ?_⟩
        have rws5 := (s5.reps rws).take 4
        rw [← List.map_take] at rws5
        have l4 := rws5.len
        rw [List.length_map] at l4
        refine comp_go (n := (ws.take 4).length) (fun i zs H' => H' = H5 ∧ zs.length ≤ i ∧ Reps H5 ((((ds.take 4).take i).filter fun d => !d.isCase).map DRow.pv) zs) ⟨rfl, Nat.le_refl _, Reps.nil⟩ ?_ ?_
        · rintro i zs H' hi ⟨hH, hzs, rzs⟩
          have hH := hH.symm
          subst hH
          refine ⟨⟨_, _, SqT.of hb5, List.getElem?_eq_getElem hi⟩, small1000 (by simp at hi; omega), ?_⟩
          rintro x H6 ⟨hH6, hx6⟩
          have hH6 := hH6.symm
          subst hH6
          have hx6' := hx6 _ (SqT.of hb5)
          obtain ⟨p6, hp6, rp6⟩ := rws5.get hx6'
          have hid : i < (ds.take 4).length := by omega
          rw [List.getElem?_map, List.getElem?_eq_getElem hid] at hp6
          have hp6 := Option.some.inj hp6
          subst hp6
          have hmem : (ds.take 4)[i] ∈ ds := List.mem_of_mem_take (List.getElem_mem hid)
          generalize hdd : (ds.take 4)[i] = dd at rp6 hmem
          obtain ⟨y, rest, ey, hyl, hyc⟩ := first_of h2 h4 (by omega) (hrw dd hmem)
          rw [ey] at rp6
          obtain ⟨b6, ws6, rfl, hb6, rws6⟩ := rp6.tup
          obtain ⟨v6, vr6, rfl, r6a, r6b⟩ := (show ∃ v r, ws6 = v :: r ∧ Rep H5 (.at (.str y)) v ∧ Reps H5 rest r from by simpa only [Reps] using rws6)
          obtain ⟨ev6, _⟩ := (show v6 = .str (S y) ∧ _ from r6a)
          subst ev6
          refine ⟨_, rfl, b6, _, 0, _, rfl, rfl, SqT.of hb6, atI_nat (j := 0) rfl, rfl, _, rfl, ite2 (fun c => ?_) (fun c => ?_)⟩
          · have ncase : dd.isCase = false := by
              cases hq : dd.isCase with
              | false => rfl
              | true =>
                rw [hyc.mpr hq, sCase] at c
                simp at c
            refine ⟨_, rfl, Wc.next hi ⟨rfl, by simp; omega, ?_⟩⟩
            rw [take_one hid, List.filter_append, List.map_append, hdd]
            refine rzs.append ?_
            simp only [List.filter_cons, ncase, Bool.not_false, if_true, List.filter_nil, List.map_cons, List.map_nil]
            refine Reps.one ?_
            rw [ey]; exact Rep.mk hb6 (Reps.cons r6a r6b)
          · have ycase : dd.isCase = true := by
              refine hyc.mp ?_
              have z : V.str (S y) = V.str "case" := by simpa using c
              injection z with z
              exact S_inj (z.trans sCase)
            refine Wc.next hi ⟨rfl, by omega, ?_⟩
            rw [take_one hid, List.filter_append, List.map_append, hdd]
            simp only [List.filter_cons, ycase, Bool.not_true, Bool.false_eq_true, if_false, List.filter_nil, List.map_nil, List.append_nil]
            exact rzs
        · rintro zs H' ⟨hH, hzs, rzs⟩
          have hH := hH.symm
          subst hH
          rw [List.take_of_length_le (by omega)] at rzs
          refine ⟨⟨_, SqT.of hb5, Nat.le_refl _⟩, fun l7 hl7 => ?_⟩
          have s7 := same_new hl7 (.lst zs)
          refine ⟨z2, fun u8 hu8 => ⟨z1, fun l9 hl9 => ?_⟩⟩
          have s8 := same_new hu8 (.tup [V.str "tell", V.int 1])
          have s9 := same_new hl9 (.lst [V.ref u8])
          refine ⟨l7, l9, _, _, rfl, rfl, s9 _ _ (s8 _ _ upd_same), upd_same, ?_, fun l10 hl10 => ?_⟩
          · simp at hzs ⊢; exact small (by omega)
          have s10 := same_new hl10 (.lst (zs ++ [V.ref u8]))
          refine ⟨l10, _, rfl, .inl ⟨SqL.of upd_same, fun u11 hu11 => ?_⟩⟩
          have s11 := same_new hu11 (.tup (zs ++ [V.ref u8]))
          have s811 := s9.trans (s10.trans s11)
          have s711 := s7.trans (s8.trans s811)
          refine Wc.next hj ⟨s4.trans (s5.trans s711), ?_⟩
          rw [take_one hjd, List.map_append, hds]
          refine ((s5.trans s711).reps rys).append (Reps.one (Rep.mk upd_same ?_))
          unfold trim
          rw [List.map_append]
          refine (s711.reps rzs).append (Reps.one ?_)
          exact Rep.mk (s811 _ _ upd_same) (Reps.cons (rep_str sTell) (Reps.cons (show _ = _ from rfl) Reps.nil))
      · rintro ys H4 ⟨s4, rys⟩
        rw [List.take_of_length_le (by omega)] at rys
        refine ⟨⟨_, SqL.of (s4 _ _ hf3), Nat.le_refl _⟩, fun l5 hl5 => ?_⟩
        have s5 := same_new hl5 (.lst ys)
        refine ⟨_, rfl, l5, _, rfl, .inl ⟨SqL.of upd_same, fun u6 hu6 => ?_⟩⟩
        have s6 := same_new hu6 (.tup ys)
        refine q _ kk _ dss (by omega) (at3.same (s4.trans (s5.trans s6))) scr ?_
        unfold K2.settle
        rw [if_neg (by rw [hip]; decide)]
        refine Rep.mk upd_same ?_
        rw [List.map_map]
        exact (s5.trans s6).reps rys
end
end W2

-- D15
set_option linter.all false
set_option maxRecDepth 100000
set_option maxHeartbeats 0
/-! what a deed tells -/
namespace W2
open PySem PySem.Spec PyProof.Rows K2 L2
section
variable {P : Program} {w : World} {K : PySem.W.Frag} {mg : Str → Option Value} {base : Heap}
theorem boot_lke : bootBuiltins "LookupError" = some (.type "LookupError") := by decide +kernel
/-- the classes of refusals -/
structure Exs (K : PySem.W.Frag) (mg : Str → Option Value) (CB : Addr) : Prop where
  x : XCls K CB
  bt : mg "BadText" = some (.ref CB)
  bp : ∃ c, mg "BadProgram" = some (.ref c) ∧ PySem.W.kitOne K (.ref CB) (.ref c) = some false
  br : ∃ c, mg "BadRoom" = some (.ref c) ∧ PySem.W.kitOne K (.ref CB) (.ref c) = some false
  bo : ∃ c, mg "BadOrder" = some (.ref c) ∧ PySem.W.kitOne K (.ref CB) (.ref c) = some false
  bm : ∃ c, mg "BadMeetings" = some (.ref c) ∧ PySem.W.kitOne K (.ref CB) (.ref c) = some false
  ne : ∃ c, mg "NoEvent" = some (.ref c) ∧ PySem.W.kitOne K (.ref CB) (.ref c) = some false
  nd : ∃ c, mg "NotEnded" = some (.ref c) ∧ PySem.W.kitOne K (.ref CB) (.ref c) = some false
  tm : ∃ c, mg "TooMany" = some (.ref c) ∧ PySem.W.kitOne K (.ref CB) (.ref c) = some false
  wi : ∃ c, mg "Wild" = some (.ref c) ∧ PySem.W.kitOne K (.ref CB) (.ref c) = some false
  lk : PySem.W.kitOne K (.ref CB) (.type "LookupError") = some true
  te : ∃ CT, mg "TakeError" = some (.ref CT) ∧ PySem.W.exmOne K (.ref CB) (.ref CT) = some true
theorem k_self (c : Value) : PySem.W.kitOne K c c = some true := by unfold PySem.W.kitOne; rw [if_pos (by simp)]
/-! _law_word -/
def spLW (CB : Addr) : Sp := fun vs H Q _ => ∃ a, vs = [.ref a] ∧ H a = some (excO a (.ref CB)) ∧ ∀ H', Same H H' → Q (.int 1) H'
theorem scLWord : FnScope ["_law_caught", "_law_kinds"] ["_law_caught"] (defScope sLWord) := ⟨rfl, rfl, rfl, by decide +kernel, rfl, by decide +kernel, by decide +kernel⟩
theorem ok_lword {CB f : Addr} {fd : FuncData} (F : Fun K "_law_word" "_law_word" sLWord f fd) (T : Tx mg) (x : Exs K mg CB) : FnOk P w K mg base CX0 1 f fd ["_law_caught"] (spLW CB) := by
  refine F.ok scLWord (fun vs H Q E h => ?_) (fun cdv A outer s H vs Q E hr h => ?_)
  · obtain ⟨a, rfl, _⟩ := h; rfl
  obtain ⟨a, rfl, ha, q⟩ := h
  obtain ⟨c1, m1, k1⟩ := x.bp
  obtain ⟨c2, m2, k2⟩ := x.br
  obtain ⟨c3, m3, k3⟩ := x.bo
  obtain ⟨c4, m4, k4⟩ := x.bm
  obtain ⟨c5, m5, k5⟩ := x.ne
  obtain ⟨c6, m6, k6⟩ := x.nd
  obtain ⟨c7, m7, k7⟩ := x.tm
  obtain ⟨c8, m8, k8⟩ := x.wi
  refine ⟨_, (pss_cons (ps_if (pt_not (pt_val (pe_callB call_isX rfl T.isi boot_isinstance (pa_cons (pv 0) (pa_cons (pe_bltn rfl T.lke boot_lke (v := .ty "LookupError") rfl) pa_nil))))) (pss_one (ps_ret (pe_un un_neg pe_int))) pss_nil)
    (pss_cons (ps_set (i := 1) scLWord.nd rfl (Or.inl rfl) (pe_lst (pa_cons (pe_callB call_isX rfl T.isi boot_isinstance (pa_cons (pv 0) (pa_cons (pe_glob rfl m1 (v := .ref _) rfl) pa_nil))) (pa_cons (pe_callB call_isX rfl T.isi boot_isinstance (pa_cons (pv 0) (pa_cons (pe_glob rfl x.bt (v := .ref _) rfl) pa_nil))) (pa_cons (pe_callB call_isX rfl T.isi boot_isinstance (pa_cons (pv 0) (pa_cons (pe_glob rfl m2 (v := .ref _) rfl) pa_nil))) pa_nil)))))
    (pss_cons (ps_set (i := 1) scLWord.nd rfl (Or.inl rfl) (pe_op op_cat (pv 1) (pe_lst (pa_cons (pe_callB call_isX rfl T.isi boot_isinstance (pa_cons (pv 0) (pa_cons (pe_glob rfl m3 (v := .ref _) rfl) pa_nil))) (pa_cons (pe_callB call_isX rfl T.isi boot_isinstance (pa_cons (pv 0) (pa_cons (pe_glob rfl m4 (v := .ref _) rfl) pa_nil))) (pa_cons (pe_callB call_isX rfl T.isi boot_isinstance (pa_cons (pv 0) (pa_cons (pe_glob rfl m5 (v := .ref _) rfl) pa_nil))) pa_nil))))))
    (pss_cons (ps_set (i := 1) scLWord.nd rfl (Or.inl rfl) (pe_op op_cat (pv 1) (pe_lst (pa_cons (pe_callB call_isX rfl T.isi boot_isinstance (pa_cons (pv 0) (pa_cons (pe_glob rfl m6 (v := .ref _) rfl) pa_nil))) (pa_cons (pe_callB call_isX rfl T.isi boot_isinstance (pa_cons (pv 0) (pa_cons (pe_glob rfl m7 (v := .ref _) rfl) pa_nil))) (pa_cons (pe_callB call_isX rfl T.isi boot_isinstance (pa_cons (pv 0) (pa_cons (pe_glob rfl m8 (v := .ref _) rfl) pa_nil))) pa_nil))))))
    (pss_one (ps_ret (pe_ifExp (pt_cmpR op_eq (pe_count (pv 1) pe_bl) pe_int (nomark _)) (pe_index (pv 1) pe_bl) (pe_un un_neg pe_int)))))))), ?_⟩
  have z3 : 3 ≤ sizeLine := by decide
  have z6 : 3 + 3 ≤ sizeLine := by decide
  have z9 : 3 + 3 + 3 ≤ sizeLine := by decide
  refine ⟨_, rfl, a, CB, _, _, _, rfl, ha, x.x, fun u z => z, x.lk, _, rfl, iteF ?_⟩
  refine ⟨_, rfl, a, CB, _, _, _, rfl, ha, x.x, fun u z => z, k1, _, rfl, a, CB, _, _, _, rfl, ha, x.x, fun u z => z, k_self _, _, rfl, a, CB, _, _, _, rfl, ha, x.x, fun u z => z, k2, z3, fun p1 hp1 => ?_⟩
  have s1 := same_new hp1 (.lst [V.bl false, .bl true, .bl false])
  have ha1 := s1 _ _ ha
  refine ⟨_, rfl, _, rfl, a, CB, _, _, _, rfl, ha1, x.x, fun u z => z, k3, _, rfl, a, CB, _, _, _, rfl, ha1, x.x, fun u z => z, k4, _, rfl, a, CB, _, _, _, rfl, ha1, x.x, fun u z => z, k5, z3, fun p2 hp2 => ?_⟩
  have s2 := same_new hp2 (.lst [V.bl false, .bl false, .bl false])
  refine ⟨p1, p2, _, _, rfl, rfl, s2 _ _ upd_same, upd_same, z6, fun p3 hp3 => ?_⟩
  have s3 := same_new hp3 (.lst ([V.bl false, .bl true, .bl false] ++ [V.bl false, .bl false, .bl false]))
  have ha3 := s3 _ _ (s2 _ _ ha1)
  refine ⟨_, rfl, _, rfl, a, CB, _, _, _, rfl, ha3, x.x, fun u z => z, k6, _, rfl, a, CB, _, _, _, rfl, ha3, x.x, fun u z => z, k7, _, rfl, a, CB, _, _, _, rfl, ha3, x.x, fun u z => z, k8, z3, fun p4 hp4 => ?_⟩
  have s4 := same_new hp4 (.lst [V.bl false, .bl false, .bl false])
  refine ⟨p3, p4, _, _, rfl, rfl, s4 _ _ upd_same, upd_same, z9, fun p5 hp5 => ?_⟩
  have s5 := same_new hp5 (.lst (([V.bl false, .bl true, .bl false] ++ [V.bl false, .bl false, .bl false]) ++ [V.bl false, .bl false, .bl false]))
  refine ⟨_, rfl, .inl ⟨rfl, _, SqL.of upd_same⟩, p5, _, _, rfl, rfl, upd_same, rfl, rfl, rfl, _, rfl, iteT ?_⟩
  refine ⟨_, rfl, .inl ⟨rfl, _, SqL.of upd_same⟩, p5, _, _, 1, .bl true, rfl, rfl, upd_same, rfl, rfl, rfl, rfl, fun m w' hm e => ?_, q _ (s1.trans (s2.trans (s3.trans (s4.trans s5))))⟩
  have : m = 0 := by omega
  subst this
  cases e; rfl
/-! _law_refused -/
def spRef : Sp := fun vs H Q _ => vs = [.str "text"] ∧ ∀ H' l, Same H H' → H' l = some (.tup [.str "refused", .int 1]) → H l = none → Q (.ref l) H'
theorem scRefused : FnScope ["_law_word_here", "_law_words"] ["_law_word_here"] (defScope sRefused) := ⟨rfl, rfl, rfl, by decide +kernel, rfl, by decide +kernel, by decide +kernel⟩
theorem ok_refused {f : Addr} {fd : FuncData} (F : Fun K "_law_refused" "_law_refused" sRefused f fd) : FnOk P w K mg base CX0 1 f fd ["_law_word_here"] spRef := by
  refine F.ok scRefused (fun vs H Q E h => ?_) (fun cdv A outer s H vs Q E hr h => ?_)
  · obtain ⟨rfl, _⟩ := h; rfl
  obtain ⟨rfl, q⟩ := h
  refine ⟨_, (pss_cons (ps_set (i := 1) scRefused.nd rfl (Or.inl rfl) (pe_lst (pa_str4 (pa_str4 (pa_str pa_nil)))))
    (pss_one (ps_ret (pe_tup (pa_cons pe_str (pa_cons (pe_index (pv 1) (pv 0)) pa_nil)))))), ?_⟩
  have z9 : 9 ≤ sizeLine := by decide
  have z2 : 2 ≤ sizeLine := by decide
  refine ⟨z9, fun p1 hp1 => ?_⟩
  have s1 := same_new hp1 (.lst [V.str "program", .str "text", .str "room", .str "order", .str "meetings", .str "event", .str "ended", .str "many", .str "wild"])
  refine ⟨_, rfl, .inl ⟨rfl, _, SqL.of upd_same⟩, _, rfl, p1, _, _, 1, .str "text", rfl, rfl, upd_same, rfl, rfl, rfl, by decide +kernel, fun m w' hm e => ?_, z2, fun l hl => q _ l (s1.trans (same_new hl _)) upd_same ?_⟩
  · have : m = 0 := by omega
    subst this
    cases e; decide +kernel
  · cases e : H l with
    | none => rfl
    | some o => have := s1 _ _ e; rw [hl] at this; cases this
/-! _law_one -/
def spOne (CB : Addr) : Sp := fun vs H Q E => ∃ i v, vs = [.int i, v] ∧ ((∃ x : K2.T, v = .str (S x) ∧ x.length ≤ 100000 ∧ (∀ p, readProg x = some p → ∀ H', Same H H' → Q (.str (S x)) H') ∧ (readProg x = none → ∀ H', Same H H' → E (.ref CB) none H')) ∨ (NoText H v ∧ E (.ref CB) none H))
theorem scOne : FnScope ["_law_way", "_law_some"] ["_law_way", "_law_some"] (defScope sOne) := ⟨rfl, rfl, rfl, by decide +kernel, rfl, by decide +kernel, by decide +kernel⟩
theorem ok_one {CB f : Addr} {fd : FuncData} (F : Fun K "_law_one" "_law_one" sOne f fd) (hread : Has P w K mg base (CX1 P w) 45 "read_program" ["text"] (spRP CB)) (hpt : Has P w K mg base CX0 44 "program_text" ["program"] spPT) :
    FnOk P w K mg base (CX1 P w) 46 f fd ["_law_way", "_law_some"] (spOne CB) := by
  refine F.okX scOne (fun vs H Q E h => ?_) (fun cdv A outer s H vs Q E hr h => ?_)
  · obtain ⟨i, v, rfl, _⟩ := h; rfl
  obtain ⟨i, v, rfl, h⟩ := h
  refine ⟨_, (pss_one (ps_ret (pe_callH hpt hr rfl pass0 (pa_cons (pe_callH hread hr rfl pass1 (pa_cons (pv 1) pa_nil)) pa_nil)))), ?_⟩
  refine ⟨_, rfl, v, rfl, ?_⟩
  rcases h with ⟨x, rfl, hx, qs, qn⟩ | ⟨nt, qe⟩
  · refine .inl ⟨x, rfl, hx, fun p hp H1 u s1 ru => ?_, qn⟩
    obtain ⟨hi, ht⟩ := readProg_some hp
    refine ⟨p, u, rfl, ru, hi, fun H2 s2 => ?_⟩
    rw [ht]
    exact qs p hp H2 (s1.trans s2)
  · exact .inr ⟨nt, qe⟩
/-! _law_told -/
def spTold (CB : Addr) : Sp := fun vs H Q _ => ∃ i v, vs = [.int i, v] ∧ ((∃ x : K2.T, v = .str (S x) ∧ x.length ≤ 100000 ∧ (∀ p, readProg x = some p → ∀ H' l, Same H H' → H' l = some (.tup [.str "found", .str (S x)]) → Q (.ref l) H') ∧
   (readProg x = none → ∀ H' l, Same H H' → H' l = some (.tup [.str "refused", .int 1]) → Q (.ref l) H')) ∨ (NoText H v ∧ ∀ H' l, Same H H' → H' l = some (.tup [.str "refused", .int 1]) → Q (.ref l) H'))
theorem scTold : FnScope ["_law_way", "_law_some", "_law_caught", "_law_found"] ["_law_way", "_law_some"] (defScope sTold) := ⟨rfl, rfl, rfl, by decide +kernel, rfl, by decide +kernel, by decide +kernel⟩
theorem neTold : ("e" : Str) ∉ (["_law_way", "_law_some", "_law_caught", "_law_found"] : List Str) := by decide +kernel
theorem ok_told {CB f : Addr} {fd : FuncData} (F : Fun K "_law_told" "_law_told" sTold f fd) (x : Exs K mg CB) (hone : Has P w K mg base (CX1 P w) 46 "_law_one" ["_law_way", "_law_some"] (spOne CB)) (hword : Has P w K mg base CX0 1 "_law_word" ["_law_caught"] (spLW CB)) :
    FnOk P w K mg base CX0 47 f fd ["_law_way", "_law_some"] (spTold CB) := by
  refine F.ok scTold (fun vs H Q E h => ?_) (fun cdv A outer s H vs Q E hr h => ?_)
  · obtain ⟨i, v, rfl, _⟩ := h; rfl
  obtain ⟨i, v, rfl, h⟩ := h
  obtain ⟨fO, fdO, okO, bO, mO, kO⟩ := hone.ex
  obtain ⟨CT, mT, kT⟩ := x.te
  refine ⟨_, (pss_cons (ps_set (i := 2) scTold.nd rfl (Or.inl rfl) pe_non)
    (pss_cons (ps_set (i := 3) scTold.nd rfl (Or.inl rfl) pe_non)
    (pss_cons (ps_try (L := s.heap.objs.size) (i := 3) (j := 2) rfl rfl rfl scTold.nd rfl rfl rfl rfl rfl neTold okO hr rfl mO kO bO .nil (pa_cons (pv 0) (pa_cons (pv 1) pa_nil)) rfl mT)
    (pss_cons (ps_if (pt_cmpR op_isN (pv 2) pe_non (nomark _)) (pss_one (ps_ret (pe_tup (pa_cons pe_str (pa_cons (pv 3) pa_nil))))) pss_nil)
    (pss_one (ps_ret (pe_tup (pa_cons pe_str (pa_cons (pe_callH hword hr rfl pass0 (pa_cons (pv 2) pa_nil)) pa_nil))))))))), ?_⟩
  have z2 : 2 ≤ sizeLine := by decide
  refine ⟨_, rfl, _, rfl, i, v, rfl, ?_⟩
  rcases h with ⟨y, rfl, hy, qs, qn⟩ | ⟨nt, qe⟩
  · refine .inl ⟨y, rfl, hy, fun p hp H1 s1 => ?_, fun hn H1 s1 => ⟨kT, fun a ha => ?_⟩⟩
    · exact ⟨_, rfl, rfl, _, rfl, iteT ⟨_, rfl, z2, fun l hl => qs p hp _ l (s1.trans (same_new hl _)) upd_same⟩⟩
    · have s2 := same_new ha (excO a (.ref CB))
      refine ⟨_, rfl, rfl, _, rfl, iteF ⟨_, rfl, a, rfl, upd_same, fun H3 s3 => ⟨z2, fun l hl => qn hn _ l (s1.trans (s2.trans (s3.trans (same_new hl _)))) upd_same⟩⟩⟩
  · refine .inr ⟨nt, kT, fun a ha => ?_⟩
    have s2 := same_new ha (excO a (.ref CB))
    refine ⟨_, rfl, rfl, _, rfl, iteF ⟨_, rfl, a, rfl, upd_same, fun H3 s3 => ⟨z2, fun l hl => qe _ l (s2.trans (s3.trans (same_new hl _))) upd_same⟩⟩⟩
end
end W2

-- D16
set_option linter.all false
set_option maxRecDepth 100000
set_option maxHeartbeats 0
/-! _law_rows, _law_part -/
namespace W2
open PySem PySem.Spec PyProof.Rows K2 L2
section
variable {P : Program} {w : World} {K : PySem.W.Frag} {mg : Str → Option Value} {base : Heap}
def spPart (d : Nat) : Sp := fun vs H Q _ => ∃ it v, vs = [v] ∧ Rep H it v ∧ ((∃ a, it = .at a ∧ FineA a) ∨ Wf d it) ∧ (textItem it).length ≤ 100000 ∧ ∀ H', Same H H' → Q (.str (S (textItem it))) H'
theorem scPart : FnScope ["_law_part_here"] ["_law_part_here"] (defScope sPart) := ⟨rfl, rfl, rfl, by decide +kernel, rfl, by decide +kernel, by decide +kernel⟩
theorem ok_part {d k : Nat} {f : Addr} {fd : FuncData} (F : Fun K "_law_part" "_law_part" sPart f fd) (T : Tx mg) (hrows : Has P w K mg base CX0 k "_law_rows" ["_law_rows_here"] (spRT d)) :
    FnOk P w K mg base CX0 (k + 1) f fd ["_law_part_here"] (spPart d) := by
  refine F.ok (k := k) scPart (fun vs H Q E h => ?_) (fun cdv A outer s H vs Q E hr h => ?_)
  · obtain ⟨it, v, rfl, _⟩ := h; rfl
  obtain ⟨it, v, rfl, rit, hit, hlen, q⟩ := h
  refine ⟨_, (pss_cons (ps_if (pt_val (pe_callB call_isi rfl T.isi boot_isinstance (pa_cons (pv 0) (pa_cons (pe_bltn rfl T.tuple boot_tuple (v := .ty "tuple") rfl) pa_nil)))) (pss_one (ps_ret (pe_op op_add_str (pe_op op_add_str pe_str (pe_callH hrows hr rfl pass0 (pa_cons (pv 0) pa_nil))) pe_str))) pss_nil)
    (pss_one (ps_ret (pe_ifExp (pt_cmp (pc_isN (pv 0))) pe_str (pe_callTy call_str_of rfl T.str boot_str (pa_cons (pv 0) pa_nil)))))), ?_⟩
  obtain ⟨tt, ty, c⟩ := rit.ty (K := K)
  rcases hit with ⟨a, rfl, fa⟩ | wfd
  · have kt : PySem.W.kitOne K (.type tt) (.type "tuple") = some false := by
      rcases c with ⟨xs, e, rfl⟩ | ⟨i, e, rfl⟩ | ⟨x, e, rfl⟩ | ⟨e, rfl⟩
      · cases e
      · exact k_int_tuple
      · exact k_str_tuple
      · exact k_none_tuple
    refine ⟨_, rfl, _, _, _, _, _, rfl, ty, fun u z => z, kt, _, rfl, iteF ?_⟩
    cases a with
    | non =>
      cases (show v = .non from rit)
      refine ⟨_, rfl, _, rfl, iteT ?_⟩
      show Q (.str "any") H
      rw [sAnyW]; exact q H (Same.refl _)
    | int i =>
      cases (show v = .int i from rit)
      exact ⟨_, rfl, _, rfl, iteF ⟨_, rfl, .inr ⟨i, rfl, nat_small fa.1 fa.2, q H (Same.refl _)⟩⟩⟩
    | str x =>
      obtain ⟨e, _⟩ := (show v = .str (S x) ∧ x.length ≤ 1000000 from rit)
      subst e
      exact ⟨_, rfl, _, rfl, iteF ⟨_, rfl, .inl ⟨S x, rfl, q H (Same.refl _)⟩⟩⟩
  · obtain ⟨qs, rfl, et⟩ : ∃ qs, it = .tup qs ∧ tt = "tuple" := by
      rcases c with ⟨xs, e, e2⟩ | ⟨i, rfl, _⟩ | ⟨x, rfl, _⟩ | ⟨rfl, _⟩
      · exact ⟨xs, e, e2⟩
      · cases d <;> exact wfd.elim
      · cases d <;> exact wfd.elim
      · cases d <;> exact wfd.elim
    subst et
    have lq : (textRows qs).length + 2 = (textItem (.tup qs)).length := by simp [textItem]
    have es : ("{" : Str) ++ S (textRows qs) ++ "}" = S (textItem (.tup qs)) := by rw [sL, sR, S_append, S_append]; simp [textItem]
    refine ⟨_, rfl, _, _, _, _, _, rfl, ty, fun u z => z, k_same _, _, rfl, iteT ⟨_, rfl, qs, v, rfl, rit, wfd, by omega, fun H3 s4 => ⟨_, _, rfl, rfl, ?_, _, _, rfl, rfl, ?_, ?_⟩⟩⟩
    · rw [sL, len_S, len_S, sizeLine_eq]; simp; omega
    · rw [sL, sR, S_append, len_S, len_S, sizeLine_eq]; simp; omega
    · rw [es]; exact q H3 s4
theorem ndLRs1 : (["_law_row_here", "_law_rows_here"] : List Str).Nodup := by decide +kernel
theorem ndLRs2 : (["_law_part_here", "_law_row_here", "_law_rows_here"] : List Str).Nodup := by decide +kernel
theorem scLRows : FnScope ["_law_rows_here"] ["_law_rows_here"] (defScope sLRows) := ⟨rfl, rfl, rfl, by decide +kernel, rfl, by decide +kernel, by decide +kernel⟩
theorem ok_lrows1 {d k : Nat} {f : Addr} {fd : FuncData} (F : Fun K "_law_rows" "_law_rows" sLRows f fd) (hpart : Has P w K mg base CX0 k "_law_part" ["_law_part_here"] (spPart d)) :
    FnOk P w K mg base CX0 (k + 1) f fd ["_law_rows_here"] (spRT (d + 1)) := by
  refine F.ok (k := k) scLRows (fun vs H Q E h => ?_) (fun cdv A outer s H vs Q E hr h => ?_)
  · obtain ⟨rs, v, rfl, _⟩ := h; rfl
  obtain ⟨rs, v, rfl, rp, wf, hlen, q⟩ := h
  refine ⟨_, (pss_one (ps_ret (pe_join (pe_comp (T := ["_law_row_here"]) (scopeIn_own ["_law_rows_here"] rfl (by decide +kernel)) rfl (pi_tup (pv 0)) (fun Y hY => by cases hY; exact pg_name (i := 0) ndLRs1 rfl (Or.inl rfl)) firsts_one (fun Y _ => pifs_nil) (fun Y hY => by cases hY; exact (pe_joinK K rfl (pe_comp (T := ["_law_part_here"]) (scopeIn_own ("_law_row_here" :: ["_law_rows_here"]) rfl (by decide +kernel)) rfl (pi_tupK K rfl (pv 0)) (fun Z hZ => by cases hZ; exact pg_name (i := 0) ndLRs2 rfl (Or.inl rfl)) firsts_one (fun Z _ => pifs_nil) (fun Z hZ => by cases hZ; exact (pe_callH hpart hr rfl pass0 (pa_cons (pv 0) pa_nil)))))))))), ?_⟩
  obtain ⟨a, vs, rfl, ha, rvs⟩ := rp.tup
  have lvs := rvs.len
  have jr := joinT_len [59, 32] (rs.map textRow)
  rw [← textRows_join] at jr
  simp only [List.length_map, List.length_cons, List.length_nil] at jr
  refine ⟨rfl, _, rfl, a, rfl, ⟨_, SqT.of ha⟩, ?_⟩
  refine comp_go (n := vs.length) (fun i ys H' => Same H H' ∧ ys = strsV ((rs.take i).map textRow)) ⟨Same.refl _, rfl⟩ ?_ ?_
  · rintro i ys H1 hi ⟨s1, rfl⟩
    refine ⟨⟨_, _, SqT.of (s1 _ _ ha), List.getElem?_eq_getElem hi⟩, ?_, ?_⟩
    · rw [strsV_len, List.length_map, List.length_take, sizeLine_eq]; omega
    rintro x H1' ⟨hH, hx⟩
    have hH := hH.symm
    subst hH
    have hx' := hx _ (SqT.of (s1 _ _ ha))
    obtain ⟨pi, hpi, rpi⟩ := (s1.reps rvs).get hx'
    have hir : i < rs.length := (List.getElem?_eq_some_iff.mp hpi).1
    have hpi' : rs[i] = pi := by rw [List.getElem?_eq_getElem hir] at hpi; exact Option.some.inj hpi
    have hmem : pi ∈ rs := List.mem_of_getElem? hpi
    obtain ⟨its, rfl, hits⟩ := (show ∀ r ∈ rs, ∃ its, r = PV.tup its ∧ ∀ it ∈ its, (∃ a, it = .at a ∧ FineA a) ∨ Wf d it from wf) pi hmem
    obtain ⟨b, ws, rfl, hb, rws⟩ := rpi.tup
    have lws := rws.len
    have lrow : (textRow (.tup its)).length ≤ (textRows rs).length := by rw [textRows_join]; exact join_mem (List.mem_map_of_mem hmem)
    have ji := joinT_len [32] (its.map textItem)
    rw [← textItems_join] at ji
    simp only [List.length_map, List.length_cons, List.length_nil] at ji
    have lrow' : (textItems its).length ≤ 100000 := Nat.le_trans lrow hlen
    refine turn1 ?_
    refine ⟨rfl, _, rfl, b, rfl, ⟨_, SqT.of hb⟩, ?_⟩
    refine comp_go (n := ws.length) (fun j zs H' => Same H1 H' ∧ zs = strsV ((its.take j).map textItem)) ⟨Same.refl _, rfl⟩ ?_ ?_
    · rintro j zs H2 hj ⟨s2, rfl⟩
      refine ⟨⟨_, _, SqT.of (s2 _ _ hb), List.getElem?_eq_getElem hj⟩, ?_, ?_⟩
      · rw [strsV_len, List.length_map, List.length_take, sizeLine_eq]; omega
      rintro y H2' ⟨hH2, hy⟩
      have hH2 := hH2.symm
      subst hH2
      have hy' := hy _ (SqT.of (s2 _ _ hb))
      obtain ⟨it, hit, rit⟩ := (s2.reps rws).get hy'
      have hjr : j < its.length := (List.getElem?_eq_some_iff.mp hit).1
      have hit' : its[j] = it := by rw [List.getElem?_eq_getElem hjr] at hit; exact Option.some.inj hit
      have hmi : it ∈ its := List.mem_of_getElem? hit
      have litem : (textItem it).length ≤ (textItems its).length := by rw [textItems_join]; exact join_mem (List.mem_map_of_mem hmi)
      refine turn1 ⟨_, rfl, it, y, rfl, rit, hits it hmi, by omega, fun H3 s3 => Wc.next hj ⟨s2.trans s3, ?_⟩⟩
      rw [take_one hjr, List.map_append, strsV_append, hit']; rfl
    · rintro zs H2 ⟨s2, rfl⟩
      have eit : its.take ws.length = its := List.take_of_length_le (by omega)
      rw [eit]
      refine ⟨⟨_, SqT.of (s2 _ _ hb), Nat.le_refl _⟩, fun l hl => ?_⟩
      have s3 := same_new hl (.lst (strsV (its.map textItem)))
      refine ⟨[32], l, its.map textItem, by rw [sSp], rfl, SqL.of upd_same, ?_, Wc.next hi ⟨s1.trans (s2.trans s3), ?_⟩⟩
      · simp only [List.length_map, List.length_cons, List.length_nil]; omega
      · rw [take_one hir, List.map_append, strsV_append, hpi', ← textItems_join]; rfl
  · rintro ys H1 ⟨s1, rfl⟩
    rw [List.take_of_length_le (by omega)]
    refine ⟨⟨_, SqT.of (s1 _ _ ha), Nat.le_refl _⟩, fun l hl => ?_⟩
    refine ⟨[59, 32], l, rs.map textRow, by rw [sSc], rfl, SqL.of upd_same, ?_, ?_⟩
    · simp only [List.length_map, List.length_cons, List.length_nil]; omega
    · have fin := q _ (s1.trans (same_new hl (.lst (strsV (rs.map textRow)))))
      rw [textRows_join] at fin; exact fin
theorem lrt_none {f : Addr} {fd : FuncData} : FnOk P w K mg base CX0 1 f fd ["_law_rows_here"] (spRT 0) := by
  have no : ∀ vs H Q E, ¬ spRT 0 vs H Q E := fun vs H Q E ⟨rs, v, _, _, wf, _⟩ => wf
  exact ⟨fun vs H Q E h => absurd h (no vs H Q E), fun A outer s H args us vs Q E _ _ _ _ h => absurd h (no vs H Q E)⟩
theorem ok_lrows {f g : Addr} {fd gd : FuncData} (F : Fun K "_law_rows" "_law_rows" sLRows f fd) (B : Binds K fd ["_law_rows_here"] []) (m : mg "_law_rows" = some (.ref f)) (G : Fun K "_law_part" "_law_part" sPart g gd) (BG : Binds K gd ["_law_part_here"] []) (mG : mg "_law_part" = some (.ref g)) (T : Tx mg) :
    ∀ d : Nat, FnOk P w K mg base CX0 (2 * d + 1) f fd ["_law_rows_here"] (spRT d)
  | 0 => lrt_none
  | d + 1 => ok_lrows1 (k := 2 * d + 2) F ⟨⟨g, gd, ok_part G T ⟨⟨f, fd, ok_lrows F B m G BG mG T d, B, m, F.kp⟩⟩, BG, mG, G.kp⟩⟩
end
end W2

-- D17
set_option linter.all false
set_option maxRecDepth 100000
set_option maxHeartbeats 0
/-! the law -/
namespace W2
open PySem PySem.Spec PyProof.Rows K2 L2
section
variable {P : Program} {w : World} {K : PySem.W.Frag} {mg : Str → Option Value} {base : Heap}
theorem ndLaw1 : (["_law_rows_here", "_law_script", "_law_town_here", "_law_program_here", "_law_text", "_law_k", "_law_at", "_law_sign", "_law_lines", "_law_some", "_law_spoilt", "_law_told_here", "_law_bads"] : List Str).Nodup := by decide +kernel
theorem ndLaw2 : (["_law_bad", "_law_script", "_law_town_here", "_law_program_here", "_law_text", "_law_k", "_law_at", "_law_sign", "_law_lines", "_law_some", "_law_spoilt", "_law_told_here", "_law_bads"] : List Str).Nodup := by decide +kernel
theorem scLaw : FnScope ["_law_script", "_law_town_here", "_law_program_here", "_law_text", "_law_k", "_law_at", "_law_sign", "_law_lines", "_law_some", "_law_spoilt", "_law_told_here", "_law_bads"] ["_law_script"] (defScope sLaw) := ⟨rfl, rfl, rfl, by decide +kernel, rfl, by decide +kernel, by decide +kernel⟩
def spLaw (K : PySem.W.Frag) : Sp := fun vs H Q _ => ∃ a ns, vs = [.ref a] ∧ Scr K H a ns ∧ ns.length ≤ 63 ∧ ∀ H', Q (.bl true) H'
theorem dps_le {n : Nat} : ∀ {ss : List PV}, (∀ s ∈ ss, dp s ≤ n) → dps ss ≤ n
  | [], _ => by simp [dps]
  | s :: r, h => by
    have h1 := dps_le (n := n) (ss := r) fun s hs => h s (.tail _ hs)
    have h2 := h s (.head _)
    simp only [dps]; omega
theorem cutT_init (x : K2.T) : cutT x none (some (-1)) = x.dropLast := by
  unfold cutT
  rw [HT.sIx_none]
  have e : HT.sIx x.length x.length (some (-1)) = x.length - 1 := by
    unfold HT.sIx; dsimp only; rw [if_pos (by decide)]; omega
  rw [e, Nat.sub_zero, List.drop_zero, List.dropLast_eq_take]
theorem add_ok {u v : K2.T} (h : u.length + v.length ≤ 100000) : (S u).length + (S v).length ≤ sizeLine := by rw [len_S, len_S, sizeLine_eq]; omega
theorem add_ok2 {u v z : K2.T} (h : u.length + v.length + z.length ≤ 100000) : (S u ++ S v).length + (S z).length ≤ sizeLine := by rw [S_append, len_S, len_S, List.length_append, sizeLine_eq]; omega
def signsV : List V := [.str " ", .str ";", .str "; ", .str "{", .str "}", .str "a", .str "0", .str "1", .str "-", .str "\n", .str "any", .str "all", .str "Z"]
def shortV : V → Bool
  | .str y => decide (y.length ≤ 3)
  | _ => false
theorem sign_of {v : V} (h : v ∈ signsV) : ∃ sT : K2.T, v = .str (S sT) ∧ sT.length ≤ 3 := by
  have all : signsV.all shortV = true := by decide +kernel
  have := List.all_eq_true.mp all v h
  cases v with
  | str y =>
    simp only [shortV, decide_eq_true_eq] at this
    rw [len_L] at this
    exact ⟨L y, by rw [S_L], this⟩
  | _ => cases this
theorem strsV_rev (ts : List K2.T) : (strsV ts).reverse = strsV ts.reverse := by unfold strsV; rw [List.map_reverse]
theorem sXn : ("x\n" : Str) = S [120, 10] := by decide +kernel
theorem sAllN : ("all\n" : Str) = S [97, 108, 108, 10] := by decide +kernel
def refP : PV := .tup [.at (.str (L "refused")), .at (.int 1)]
theorem ref_len : (L "refused").length ≤ 1000000 := by decide +kernel
theorem ref_rep {H : Hp} {l : Addr} (h : H l = some (.tup [.str "refused", .int 1])) : Rep H refP (.ref l) :=
  Rep.mk h (Reps.cons (show _ ∧ _ from ⟨by rw [S_L], ref_len⟩) (Reps.cons (show _ = _ from rfl) Reps.nil))
theorem reps_rep {H : Hp} {p : PV} {v : V} (h : Rep H p v) : ∀ n : Nat, Reps H (List.replicate n p) (List.replicate n [v]).flatten
  | 0 => Reps.nil
  | n + 1 => by
    rw [List.replicate_succ, List.replicate_succ, List.flatten_cons]
    exact Reps.cons h (reps_rep h n)
theorem dps_ref : dps (List.replicate 8 refP) ≤ 50 := by decide +kernel
theorem ok_law {CB f : Addr} {fd : FuncData} (F : Fun K "law" "law" sLaw f fd) (T : Tx mg)
    (htown : Has P w K mg base CX0 1 "_law_town" ["_law_script"] (spTown K)) (hd : Has P w K mg base CX0 1 "_law_draw" ["_law_script", "_law_town_here", "_law_many"] (spDraw K)) (hp : Has P w K mg base CX0 2 "_law_pick" ["_law_script", "_law_town_here", "_law_some"] (spPick K))
    (hlprog : Has P w K mg base CX0 8 "_law_program" ["_law_script", "_law_town_here", "_law_hands", "_law_most_rows", "_law_wild"] (spLP K)) (hlrows : Has P w K mg base CX0 85 "_law_rows" ["_law_rows_here"] (spRT 42))
    (hpt : Has P w K mg base CX0 44 "program_text" ["program"] spPT) (hread : Has P w K mg base (CX1 P w) 45 "read_program" ["text"] (spRP CB)) (hprog : HasP P w K mg base 7 "is_program" isProg)
    (htold : Has P w K mg base CX0 47 "_law_told" ["_law_way", "_law_some"] (spTold CB)) (href : Has P w K mg base CX0 1 "_law_refused" ["_law_word_here"] spRef) :
    FnOk P w K mg base CX0 86 f fd ["_law_script"] (spLaw K) := by
  refine F.ok scLaw (fun vs H Q E h => ?_) (fun cdv A outer s H vs Q E hr h => ?_)
  · obtain ⟨a, ns, rfl, _⟩ := h; rfl
  obtain ⟨a, ns, rfl, scr, h63, q⟩ := h
  have hu : (A.deeper (envOfC "law" (defScope sLaw) s.heap.objs.size f cdv)).units + 100 < cLine := by have := hr.un; omega
  refine ⟨_, (pss_cons (ps_set (i := 1) scLaw.nd rfl (Or.inl rfl) (pe_callH htown hr rfl pass0 (pa_cons (pv 0) pa_nil)))
    (pss_cons (ps_set (i := 2) scLaw.nd rfl (Or.inl rfl) (pe_callH hlprog hr rfl pass0 (pa_cons (pv 0) (pa_cons (pv 1) (pa_cons (pe_op op_add pe_int (pe_callH hd hr rfl pass0 (pa_cons (pv 0) (pa_cons (pv 1) (pa_cons pe_int pa_nil))))) (pa_cons pe_int (pa_cons pe_bl pa_nil)))))))
    (pss_cons (ps_set (i := 3) scLaw.nd rfl (Or.inl rfl) (pe_join (pe_comp (T := ["_law_rows_here"]) (scopeIn_own ["_law_script", "_law_town_here", "_law_program_here", "_law_text", "_law_k", "_law_at", "_law_sign", "_law_lines", "_law_some", "_law_spoilt", "_law_told_here", "_law_bads"] rfl (by decide +kernel)) rfl (pi_tup (pv 2)) (fun Y hY => by cases hY; exact pg_name (i := 0) ndLaw1 rfl (Or.inl rfl)) firsts_one (fun Y _ => pifs_nil) (fun Y hY => by cases hY; exact (pe_op op_add_str (pe_callH hlrows hr rfl pass0 (pa_cons (pv 0) pa_nil)) pe_str)))))
    (pss_cons (ps_if (PW.pt (pw_or (pt_cmpR op_ne (pe_callH hpt hr rfl pass0 (pa_cons (pv 2) pa_nil)) (pv 3) (nomark _)) (pw_or (pt_cmpR op_neRep (pe_callH hread hr rfl pass1F (pa_cons (pv 3) pa_nil)) (pv 2) (nomark _)) (pw_or1 (pt_not (pt_val (pe_callB call_isi rfl T.isi boot_isinstance (pa_cons (pe_callH hread hr rfl pass1F (pa_cons (pv 3) pa_nil)) (pa_cons (pe_bltn rfl T.tuple boot_tuple (v := .ty "tuple") rfl) pa_nil))))))))) (pss_one (ps_ret pe_bl)) pss_nil)
    (pss_cons (ps_for PassesOwn.never rfl (pi_range1 rfl T.range (pa_cons pe_int pa_nil)) (pg_name (i := 4) scLaw.nd rfl (Or.inl rfl)) (pss_cons (ps_set (i := 5) scLaw.nd rfl (Or.inl rfl) (pe_callH hd hr rfl pass0 (pa_cons (pv 0) (pa_cons (pv 1) (pa_cons (pe_op op_add (pe_callB call_len_str rfl T.len PySem.boot_len (pa_cons (pv 3) pa_nil)) pe_int) pa_nil)))))
    (pss_cons (ps_set (i := 6) scLaw.nd rfl (Or.inl rfl) (pe_callH hp hr rfl pass0 (pa_cons (pv 0) (pa_cons (pv 1) (pa_cons (pe_lst (pa_str4 (pa_str4 (pa_str4 (pa_str pa_nil))))) pa_nil)))))
    (pss_cons (ps_set (i := 7) scLaw.nd rfl (Or.inl rfl) (pe_split1 (pv 3) pe_str))
    (pss_cons (ps_set (i := 8) scLaw.nd rfl (Or.inl rfl) (pe_lst (pa_cons (pe_op op_add_str (pe_op op_add_str (pe_slice sl_str (pv 3) po_none (po_some (pv 5))) (pv 6)) (pe_slice sl_str (pv 3) (po_some (pv 5)) po_none)) (pa_cons (pe_op op_add_str (pe_slice sl_str (pv 3) po_none (po_some (pv 5))) (pe_slice sl_str (pv 3) (po_some (pe_op op_add (pv 5) pe_int)) po_none)) (pa_cons (pe_op op_add_str (pe_op op_add_str (pe_slice sl_str (pv 3) po_none (po_some (pv 5))) (pv 6)) (pe_slice sl_str (pv 3) (po_some (pe_op op_add (pv 5) pe_int)) po_none)) pa_nil)))))
    (pss_cons (ps_set (i := 9) scLaw.nd rfl (Or.inl rfl) (pe_callH hp hr rfl pass0 (pa_cons (pv 0) (pa_cons (pv 1) (pa_cons (pe_op op_cat (pv 8) (pe_lst (pa_cons (pe_join (pe_op op_cat (pe_rev (pe_slice sl_list (pv 7) po_none (po_some (pe_un un_neg pe_int)))) (pe_lst (pa_cons pe_str pa_nil)))) (pa_cons (pe_slice sl_str (pv 3) po_none (po_some (pe_un un_neg pe_int))) (pa_cons (pe_op op_add_str (pv 3) (pv 3)) pa_nil))))) pa_nil)))))
    (pss_cons (ps_set (i := 10) scLaw.nd rfl (Or.inl rfl) (pe_callH htold hr rfl pass0 (pa_cons pe_int (pa_cons (pv 9) pa_nil))))
    (pss_cons (ps_if (PW.pt (pw_and (pt_cmpR (op_neFlat hr.units0) (pv 10) (pe_tup (pa_cons pe_str (pa_cons (pv 9) pa_nil))) (nomark _)) (pw_and1 (pt_cmpR (op_neFlat hr.units0) (pv 10) (pe_callH href hr rfl pass0 (pa_cons pe_str pa_nil)) (nomark _))))) (pss_one (ps_ret pe_bl)) pss_nil)
    (pss_one (ps_if (PW.pt (pw_and (pt_cmpR op_eq (pe_ix ix_tup (pv 10) pe_int (fun _ _ => rfl)) pe_str (nomark _)) (pw_and1 (pt_cmpR op_isnotT (pe_callH hprog hr rfl pass0 (pa_cons (pe_callH hread hr rfl pass1F (pa_cons (pv 9) pa_nil)) pa_nil)) pe_bl (nomark _))))) (pss_one (ps_ret pe_bl)) pss_nil))))))))))
    (pss_cons (ps_set (i := 11) scLaw.nd rfl (Or.inl rfl) (pe_lst (pa_cons pe_non (pa_cons pe_int (pa_cons (pe_lst (pa_cons (pv 3) pa_nil)) (pa_cons pe_str (pa_cons pe_str (pa_cons (pe_slice sl_str (pv 3) po_none (po_some (pe_un un_neg pe_int))) (pa_cons (pe_op op_add_str pe_str (pv 3)) (pa_cons (pe_op op_add_str (pv 3) pe_str) pa_nil))))))))))
    (pss_one (ps_ret (pe_cmpR (op_eqLR hu) (pe_comp (T := ["_law_bad"]) (scopeIn_own ["_law_script", "_law_town_here", "_law_program_here", "_law_text", "_law_k", "_law_at", "_law_sign", "_law_lines", "_law_some", "_law_spoilt", "_law_told_here", "_law_bads"] rfl (by decide +kernel)) rfl (pi_list (pv 11)) (fun Y hY => by cases hY; exact pg_name (i := 0) ndLaw2 rfl (Or.inl rfl)) firsts_one (fun Y _ => pifs_nil) (fun Y hY => by cases hY; exact (pe_callH htold hr rfl pass0 (pa_cons pe_int (pa_cons (pv 0) pa_nil))))) (pe_op op_rep (pe_lst (pa_cons (pe_callH href hr rfl pass0 (pa_cons pe_str pa_nil)) pa_nil)) pe_int) (nomark _)))))))))), ?_⟩
  have z1 : 1 ≤ sizeLine := by decide
  have z2 : 2 ≤ sizeLine := by decide
  have z3 : 3 ≤ sizeLine := by decide
  have z8 : 8 ≤ sizeLine := by decide
  have z13 : 13 ≤ sizeLine := by decide
  refine ⟨_, rfl, a, ns, rfl, scr, h63, fun t H1 s1 ht tn1 => ?_⟩
  have scr1 : Scr K H1 a ns := by
    rcases scr with ⟨o, e⟩ | e
    · exact .inl ⟨o, s1 _ _ e⟩
    · exact .inr e
  have dr1 : Dr K H1 a t ns 0 := ⟨scr1, tn1, h63, by decide, by decide⟩
  refine ⟨_, rfl, _, rfl, _, rfl, _, rfl, a, t, ns, 0, 3, rfl, dr1, by decide, by decide, fun m H2 m0 m1 k2 tn2 => ⟨2, m, rfl, rfl, ?_⟩⟩
  obtain ⟨m, rfl⟩ : ∃ j : Nat, m = j := ⟨m.toNat, by omega⟩
  have dr2 : Dr K H2 a t ns (0 + 1) := ⟨k2.scr tn1 scr1, tn2, h63, by decide, by decide⟩
  refine ⟨a, t, ns, 0 + 1, 2 + m, rfl, dr2, by decide, by omega, by omega, fun v kk H3 dss hkk at3 hscr rv => ?_⟩
  have dn : Drawn (K2.settle dss) := settle_ok (by omega) (by omega) hscr
  generalize hp0 : K2.settle dss = des at dn rv
  have hpr := dn.prog
  have hpl := prog_len hpr
  have dr3 : Dr K H3 a t ns (0 + 1 + kk) := at3.dr dr2 (by decide)
  have tn3 := dr3.tn
  generalize hc : (0 + 1 + (kk : Int)) = c at dr3 tn3
  have hcb : c ≤ 20000 := by omega
  have hc0 : 0 ≤ c := by omega
  obtain ⟨ss, ess, h2, h5, hs⟩ := isProg_shape hpr
  have rv' := rv
  rw [ess] at rv'
  obtain ⟨pa, pvs, rfl, hpa, rpv⟩ := rv'.tup
  have lpv := rpv.len
  refine ⟨rfl, _, rfl, pa, rfl, ⟨_, SqT.of hpa⟩, ?_⟩
  refine comp_go (n := pvs.length) (fun i ys H' => Same H3 H' ∧ ys = strsV ((ss.take i).map fun s => scriptText s ++ [10])) ⟨Same.refl _, rfl⟩ ?_ ?_
  · rintro i ys H4 hi ⟨s4, rfl⟩
    refine ⟨⟨_, _, SqT.of (s4 _ _ hpa), List.getElem?_eq_getElem hi⟩, ?_, ?_⟩
    · rw [strsV_len, List.length_map, List.length_take, sizeLine_eq]; omega
    · rintro x _ ⟨rfl, hx⟩
      have hx' := hx pvs (SqT.of (s4 _ _ hpa))
      obtain ⟨p, hp', rp'⟩ := (s4.reps rpv).get hx'
      have hi' : i < ss.length := by omega
      have e : ss[i] = p := by rw [List.getElem?_eq_getElem hi'] at hp'; exact Option.some.inj hp'
      have ok := hs i p hp'
      obtain ⟨rw', rfl⟩ : ∃ r, p = .tup r := by
        cases p with
        | tup r => exact ⟨r, rfl⟩
        | «at» z => exact ok.wf.elim
      have hl : (textRows rw').length ≤ 2400 := ok.len
      refine turn1 ?_
      refine ⟨_, rfl, rw', x, rfl, rp', ok.wf, by omega, fun H5 s5 => ⟨_, _, rfl, rfl, ?_, Wc.next hi ⟨s4.trans s5, ?_⟩⟩⟩
      · rw [sNl, len_S, len_S, sizeLine_eq]; simp; omega
      · rw [take_one hi', List.map_append, strsV_append, sNl, S_append, e]; rfl
  · rintro ys H4 ⟨s4, rfl⟩
    refine ⟨⟨_, SqT.of (s4 _ _ hpa), Nat.le_refl _⟩, fun p hp => ?_⟩
    rw [List.take_of_length_le (by omega)]
    have s5 := s4.trans (same_new hp (.lst (strsV (ss.map fun s => scriptText s ++ [10]))))
    generalize hH5 : upd H4 p (.lst (strsV (ss.map fun s => scriptText s ++ [10]))) = H5 at s5
    have ej : joinT [] (ss.map fun s => scriptText s ++ [10]) = textProg (dProg des) := by
      rw [ess, joinT_flat]; rfl
    have sm : ((ss.map fun s => scriptText s ++ [10]).map List.length).sum = (textProg (dProg des)).length := by
      rw [ess]; show _ = (ss.flatMap fun s => scriptText s ++ [10]).length
      rw [List.flatMap_def, List.length_flatten]
    refine ⟨[], p, ss.map fun s => scriptText s ++ [10], by rw [sNil], rfl, by rw [← hH5]; exact SqL.of upd_same, ?_, ?_⟩
    · simp only [List.length_map, List.length_nil, Nat.mul_zero, Nat.add_zero]
      omega
    rw [ej]
    generalize hx : textProg (dProg des) = x at hpl
    have hrd : readProg x = some (dProg des) := by rw [← hx]; exact readProg_d dn
    have rv5 := s5.rep rv
    refine ⟨_, rfl, _, _, rfl, rv5, hpr, fun H6 s6 => ⟨_, rfl, rfl, ?_⟩⟩
    rw [hx]
    have hdp : dp (.tup ss) ≤ 85 := by
      have := dps_le (n := 84) (ss := ss) fun s hs' => by
        obtain ⟨j, hj, e⟩ := List.getElem_of_mem hs'
        exact dp_wf 42 s (hs j s (by rw [List.getElem?_eq_getElem hj, e])).wf
      simp only [dp]; omega
    have hun := hr.un
    refine ⟨_, rfl, ite2 (fun c => by simp at c) fun _ => ?_⟩
    refine ⟨_, rfl, _, rfl, .inl ⟨x, rfl, by omega, fun p7 hp7 H7 u7 s7 ru7 => ?_, fun hn => by rw [hrd] at hn; cases hn⟩⟩
    rw [hrd] at hp7
    have hp7 := Option.some.inj hp7
    subst hp7
    have rv7 := s7.rep (s6.rep rv5)
    rw [ess] at rv7 ru7
    refine ⟨_, rfl, ss, Nat.lt_of_le_of_lt (Nat.add_le_add_left hdp _) (show (A.deeper (envOfC "law" (defScope sLaw) s.heap.objs.size f cdv)).units + 85 < cLine by omega), ru7, rv7, _, rfl, iteF ?_⟩
    refine ⟨_, rfl, _, rfl, .inl ⟨x, rfl, by omega, fun p8 hp8 H8 u8 s8 ru8 => ?_, fun hn => by rw [hrd] at hn; cases hn⟩⟩
    rw [hrd] at hp8
    have hp8 := Option.some.inj hp8
    subst hp8
    rw [ess] at ru8
    obtain ⟨b8, w8, rfl, hb8, _⟩ := ru8.tup
    refine ⟨_, _, _, _, _, rfl, .tup hb8, fun u z => z, k_same _, _, rfl, iteF ?_⟩
    have s38 := s5.trans (s6.trans (s7.trans s8))
    have tn8 := tn3.same s38
    have rv8 := s38.rep rv
    refine ⟨4, rfl, by decide, by decide, ?_⟩
    refine for_go (n := 4) (fun i σ' H' => ∃ (k : Nat) (r4 r5 r6 r7 r8 r9 r10 : Option V), k ≤ 3 * i ∧ σ' = [some (.ref a), some (.ref t), some (.ref pa), some (.str (S x)), r4, r5, r6, r7, r8, r9, r10, none] ∧ AtK H8 H' t ns.length c k) ?_ ?_ ?_
    · exact ⟨0, none, none, none, none, none, none, none, by omega, rfl, ⟨Kept.refl _ _, by rw [show c + ((0 : Nat) : Int) = c by omega]; exact tn8⟩⟩
    · rintro i σ' H9 hi ⟨k, r4, r5, r6, r7, r8, r9, r10, hk, rfl, at9⟩
      refine ⟨hi, ?_⟩
      rintro y _ ⟨rfl, rfl⟩
      have dr8 : Dr K H8 a t ns c := ⟨(Kept.of (t := t) s38).scr tn3 dr3.scr, tn8, h63, dr3.c0, dr3.c1⟩
      have dr9 := at9.dr dr8 (by omega)
      refine ⟨_, rfl, _, rfl, _, rfl, S x, rfl, by rw [len_S, sizeLine_eq]; omega, _, _, rfl, rfl, a, t, ns, _, _, rfl, dr9, by rw [len_S]; omega, by rw [len_S]; omega, fun j H10 j0 j1 k10 tn10 => ?_⟩
      have at10 := at9.step k10 tn10
      refine ⟨_, rfl, _, rfl, z13, fun l11 hl11 => ?_⟩
      have s11 := same_new hl11 (.lst signsV)
      have at11 := at10.same s11
      have dr11 := at11.dr dr8 (by omega)
      refine ⟨a, t, ns, _, l11, signsV, rfl, dr11, at10.ne hl11, upd_same, by decide, by decide, fun sg H12 hsg k12 tn12 => ?_⟩
      obtain ⟨sT, rfl, hsT⟩ := sign_of hsg
      have at12 := at11.step k12 tn12
      refine ⟨_, rfl, rfl, x, 10, rfl, by rw [sNl], by omega, fun p13 hp13 => ?_⟩
      have s13 := same_new hp13 (.lst ((splitC 10 x).map fun y => V.str (S y)))
      have at13 := at12.same s13
      have c1 := cutT_le x none (some j)
      have c2 := cutT_le x (some j) none
      have c3 := cutT_le x (some (j + 1)) none
      have hx6 : x.length ≤ 1000000 := by omega
      refine ⟨_, rfl, _, rfl, j, rfl, x, rfl, hx6, _, rfl, _, _, rfl, rfl, add_ok (by omega), _, rfl, _, rfl, j, rfl, x, rfl, hx6, _, _, rfl, rfl, add_ok2 (by omega), ?_⟩
      refine ⟨_, rfl, _, rfl, j, rfl, x, rfl, hx6, _, rfl, _, rfl, _, _, rfl, rfl, j + 1, rfl, x, rfl, hx6, _, _, rfl, rfl, add_ok (by omega), ?_⟩
      refine ⟨_, rfl, _, rfl, j, rfl, x, rfl, hx6, _, rfl, _, _, rfl, rfl, add_ok (by omega), _, rfl, _, rfl, _, _, rfl, rfl, j + 1, rfl, x, rfl, hx6, _, _, rfl, rfl, add_ok2 (by omega), z3, fun p14 hp14 => ?_⟩
      have el : cutV ((splitC 10 x).map fun y => V.str (S y)) none (some (-1)) = strsV (linesOf x) := by rw [cut_init]; unfold strsV K2.linesOf; rw [List.map_dropLast]
      have sml := sum_lines dn
      rw [hx] at sml
      refine ⟨_, rfl, _, rfl, _, rfl, rfl, _, rfl, 1, rfl, -1, rfl, p13, _, rfl, SqL.of (same_new hp14 _ _ _ upd_same), fun p15 hp15 => ?_⟩
      rw [el]
      refine ⟨p15, _, rfl, SqL.of upd_same, fun p16 hp16 => ?_⟩
      rw [strsV_rev]
      refine ⟨z1, fun p17 hp17 => ?_⟩
      refine ⟨p16, p17, _, _, rfl, rfl, same_new hp17 _ _ _ upd_same, upd_same, ?_, fun p18 hp18 => ?_⟩
      · rw [strsV_len, List.length_reverse, sizeLine_eq]; show (linesOf x).length + 1 ≤ _; omega
      have e18 : strsV (linesOf x).reverse ++ [V.str ""] = strsV ((linesOf x).reverse ++ [[]]) := by rw [strsV_append]; rfl
      rw [e18]
      have sm2 : (((linesOf x).reverse ++ [[]]).map List.length).sum + ((linesOf x).reverse ++ [[]]).length * 1 ≤ x.length + 1 := by
        simp only [List.map_append, List.map_reverse, List.sum_append, List.sum_reverse, List.length_append, List.length_reverse, List.map_cons, List.map_nil, List.sum_cons, List.sum_nil, List.length_nil, List.length_cons]
        omega
      refine ⟨[10], p18, (linesOf x).reverse ++ [[]], by rw [sNl], rfl, SqL.of upd_same, ?_, ?_⟩
      · show _ + _ * 1 ≤ _; omega
      refine ⟨_, rfl, 1, rfl, -1, rfl, x, rfl, hx6, _, rfl, _, rfl, _, _, rfl, rfl, add_ok (by omega), z3, fun p19 hp19 => ?_⟩
      have S1319 := (same_new hp14 (.lst [V.str (S (cutT x none (some j)) ++ S sT ++ S (cutT x (some j) none)), V.str (S (cutT x none (some j)) ++ S (cutT x (some (j + 1)) none)), V.str (S (cutT x none (some j)) ++ S sT ++ S (cutT x (some (j + 1)) none))]))
      have S15 := same_new hp15 (.lst (strsV (linesOf x)))
      have S16 := same_new hp16 (.lst (strsV (linesOf x).reverse))
      have S17 := same_new hp17 (.lst [V.str ""])
      have S18 := same_new hp18 (.lst (strsV ((linesOf x).reverse ++ [[]])))
      have S19 := same_new hp19 (.lst [V.str (S (joinT [10] ((linesOf x).reverse ++ [[]]))), V.str (S (cutT x none (some (-1)))), V.str (S x ++ S x)])
      have S1519 := S15.trans (S16.trans (S17.trans (S18.trans S19)))
      refine ⟨p14, p19, _, _, rfl, rfl, S1519 _ _ upd_same, upd_same, (show 3 + 3 ≤ sizeLine by decide), fun p20 hp20 => ?_⟩
      have S20 := same_new hp20 (.lst ([V.str (S (cutT x none (some j)) ++ S sT ++ S (cutT x (some j) none)), V.str (S (cutT x none (some j)) ++ S (cutT x (some (j + 1)) none)), V.str (S (cutT x none (some j)) ++ S sT ++ S (cutT x (some (j + 1)) none))] ++ [V.str (S (joinT [10] ((linesOf x).reverse ++ [[]]))), V.str (S (cutT x none (some (-1)))), V.str (S x ++ S x)]))
      have at19 := at13.same (S1319.trans S1519)
      have at20 := at19.same S20
      have dr20 := at20.dr dr8 (by omega)
      refine ⟨a, t, ns, _, p20, _, rfl, dr20, at19.ne hp20, upd_same, (show 1 ≤ 6 by decide), (show 6 ≤ 1000 by decide), fun sp H21 hsp k21 tn21 => ?_⟩
      have at21 := at20.step k21 tn21
      obtain ⟨y, rfl, hy⟩ : ∃ y : K2.T, sp = .str (S y) ∧ y.length ≤ 100000 := by
        have jl := (joinT_len [10] ((linesOf x).reverse ++ [[]])).2
        have c4 := cutT_le x none (some (-1))
        simp only [List.cons_append, List.nil_append, List.mem_cons, List.not_mem_nil, or_false] at hsp
        rcases hsp with rfl | rfl | rfl | rfl | rfl | rfl
        · exact ⟨_, by rw [S_append, S_append], by simp only [List.length_append]; omega⟩
        · exact ⟨_, by rw [S_append], by simp only [List.length_append]; omega⟩
        · exact ⟨_, by rw [S_append, S_append], by simp only [List.length_append]; omega⟩
        · exact ⟨_, rfl, by simp only [List.length_cons, List.length_nil] at jl; omega⟩
        · exact ⟨_, rfl, by omega⟩
        · exact ⟨_, by rw [S_append], by simp only [List.length_append]; omega⟩
      refine ⟨_, rfl, 0, _, rfl, .inl ⟨y, rfl, hy, fun p hp H22 l s22 h22 => ?_, fun hn H22 l s22 h22 => ?_⟩⟩
      · obtain ⟨hip, _⟩ := readProg_some hp
        refine ⟨_, rfl, _, rfl, z2, fun q23 hq23 => ?_⟩
        have S23 := same_new hq23 (.tup [V.str "found", V.str (S y)])
        refine ⟨l, q23, _, _, _, _, rfl, rfl, S23 _ _ h22, upd_same, rfl, rfl, rfl, rfl, _, rfl, ite2 (fun c => by simp [eqV] at c) fun _ => iteF ?_⟩
        refine ⟨_, rfl, l, _, 0, _, rfl, rfl, SqT.of (S23 _ _ h22), atI_nat (j := 0) rfl, rfl, _, rfl, ite2 (fun _ => ?_) (fun c => by simp at c)⟩
        refine ⟨_, rfl, _, rfl, .inl ⟨y, rfl, hy, fun p' hp' H24 u s24 ru => ⟨p', u, rfl, ru, fun H25 s25 => ⟨_, _, rfl, rfl, _, rfl, ite2 (fun c => ?_) fun _ => ?_⟩⟩, fun hn => by rw [hp] at hn; cases hn⟩⟩
        · rw [(readProg_some hp').1] at c; simp at c
        · have e0 : (at21.same (s22.trans (S23.trans (s24.trans s25)))) = (at21.same (s22.trans (S23.trans (s24.trans s25)))) := rfl
          exact ⟨k + 1 + 1 + 1, _, _, _, _, _, _, _, by omega, rfl, at21.same (s22.trans (S23.trans (s24.trans s25)))⟩
      · refine ⟨_, rfl, _, rfl, z2, fun q23 hq23 => ?_⟩
        have S23 := same_new hq23 (.tup [V.str "found", V.str (S y)])
        have nrf : eqV (.str "refused") (.str "found") = false := by decide +kernel
        refine ⟨l, q23, _, _, _, _, rfl, rfl, S23 _ _ h22, upd_same, rfl, rfl, rfl, rfl, _, rfl, ite2 (fun _ => ?_) (fun c => by rw [nrf] at c; simp at c)⟩
        refine ⟨_, rfl, rfl, fun H24 l24 s24 h24 hn24 => ?_⟩
        refine ⟨l, l24, _, _, _, _, rfl, rfl, s24 _ _ (S23 _ _ h22), h24, rfl, rfl, rfl, rfl, _, rfl, ite2 (fun c => by simp [eqV] at c) fun _ => ?_⟩
        refine ⟨_, rfl, l, _, 0, _, rfl, rfl, SqT.of (s24 _ _ (S23 _ _ h22)), atI_nat (j := 0) rfl, rfl, _, rfl, ite2 (fun c => ?_) fun _ => iteF ?_⟩
        · exact absurd c (by decide +kernel)
        · exact ⟨k + 1 + 1 + 1, _, _, _, _, _, _, _, by omega, rfl, at21.same (s22.trans (S23.trans s24))⟩
    · rintro σ' H9 ⟨k, r4, r5, r6, r7, r8, r9, r10, hk, rfl, at9⟩
      refine ⟨Nat.le_refl _, ?_⟩
      have hx6 : x.length ≤ 1000000 := by omega
      refine ⟨_, rfl, z1, fun q1 hq1 => ?_⟩
      have S1 := same_new hq1 (.lst [V.str (S x)])
      refine ⟨_, rfl, 1, rfl, -1, rfl, x, rfl, hx6, _, rfl, _, _, rfl, rfl, by rw [sSp]; exact add_ok (by simp; omega), _, rfl, _, _, rfl, rfl, by rw [sXn]; exact add_ok (by simp; omega), z8, fun q2 hq2 => ?_⟩
      have S2 := same_new hq2 (.lst [V.non, .int 7, .ref q1, .str "", .str "all\n", .str (S (cutT x none (some (-1)))), .str (" " ++ S x), .str (S x ++ "x\n")])
      generalize hB : upd (upd H9 q1 (.lst [V.str (S x)])) q2 (.lst [V.non, .int 7, .ref q1, .str "", .str "all\n", .str (S (cutT x none (some (-1)))), .str (" " ++ S x), .str (S x ++ "x\n")]) = HB at S2
      have hb2 : HB q2 = some (.lst [V.non, .int 7, .ref q1, .str "", .str "all\n", .str (S (cutT x none (some (-1)))), .str (" " ++ S x), .str (S x ++ "x\n")]) := by rw [← hB]; exact upd_same
      have hb1 := S2 _ _ (show upd H9 q1 (.lst [V.str (S x)]) q1 = some (.lst [V.str (S x)]) from upd_same)
      have each : ∀ v ∈ [V.non, .int 7, .ref q1, .str "", .str "all\n", .str (S (cutT x none (some (-1)))), .str (" " ++ S x), .str (S x ++ "x\n")], ∀ H', Same HB H' → (∃ y : K2.T, v = .str (S y) ∧ y.length ≤ 100000 ∧ readProg y = none) ∨ NoText H' v := by
        intro v hv H' sH
        simp only [List.mem_cons, List.not_mem_nil, or_false] at hv
        rcases hv with rfl | rfl | rfl | rfl | rfl | rfl | rfl | rfl
        · exact .inr (.inl rfl)
        · exact .inr (.inr (.inl ⟨7, rfl⟩))
        · exact .inr (.inr (.inr ⟨q1, _, rfl, sH _ _ hb1⟩))
        · exact .inl ⟨[], by rw [sNil], by decide, readProg_empty⟩
        · exact .inl ⟨_, by rw [sAllN], by decide, readProg_all⟩
        · refine .inl ⟨_, rfl, Nat.le_trans (cutT_le x _ _) (by omega), ?_⟩
          rw [cutT_init, ← hx]; exact readProg_init dn
        · exact .inl ⟨32 :: x, by rw [sSp, S_append]; rfl, by simp; omega, readProg_blank x⟩
        · refine .inl ⟨x ++ [120, 10], by rw [sXn, S_append], by simp; omega, ?_⟩
          rw [← hx]; exact readProg_x dn
      refine ⟨_, rfl, q2, rfl, ⟨_, SqL.of hb2⟩, ?_⟩
      refine comp_go (n := 8) (fun i ys H' => Same HB H' ∧ Reps H' (List.replicate i refP) ys) ⟨Same.refl _, Reps.nil⟩ ?_ ?_
      · rintro i ys H10 hi ⟨s10, rys⟩
        have ly := rys.len
        rw [List.length_replicate] at ly
        refine ⟨⟨_, _, SqL.of (s10 _ _ hb2), List.getElem?_eq_getElem hi⟩, small1000 (by omega), ?_⟩
        rintro v H10' ⟨hH, hv⟩
        have hH := hH.symm
        subst hH
        have hv' := List.mem_of_getElem? (hv _ (SqL.of (s10 _ _ hb2)))
        have fin : ∀ H' l, Same H10 H' → H' l = some (.tup [.str "refused", .int 1]) → Same HB H' ∧ Reps H' (List.replicate (i + 1) refP) (ys ++ [V.ref l]) := fun H' l sl hl => by
          refine ⟨s10.trans sl, ?_⟩
          rw [List.replicate_succ']
          exact (sl.reps rys).append (Reps.one (ref_rep hl))
        refine turn1 ⟨_, rfl, 0, v, rfl, ?_⟩
        rcases each v hv' H10 s10 with ⟨y, rfl, hy, hn⟩ | nt
        · exact .inl ⟨y, rfl, hy, (fun p hp => by rw [hn] at hp; cases hp), fun _ H' l sl hl => Wc.next hi (fin H' l sl hl)⟩
        · exact .inr ⟨nt, fun H' l sl hl => Wc.next hi (fin H' l sl hl)⟩
      · rintro ys H10 ⟨s10, rys⟩
        refine ⟨⟨_, SqL.of (s10 _ _ hb2), Nat.le_refl _⟩, fun l11 hl11 => ?_⟩
        have S11 := same_new hl11 (.lst ys)
        refine ⟨rfl, fun H12 l12 s12 h12 hn12 => ⟨z1, fun l13 hl13 => ?_⟩⟩
        have S13 := same_new hl13 (.lst [V.ref l12])
        refine ⟨l13, 8, _, rfl, rfl, upd_same, by decide, by decide, (show 1 * 8 ≤ sizeLine by decide), fun l14 hl14 => ?_⟩
        have S14 := same_new hl14 (.lst (List.replicate (8 : Int).toNat [V.ref l12]).flatten)
        have S1214 := S13.trans S14
        refine ⟨l11, l14, ys, _, List.replicate 8 refP, rfl, rfl, SqL.of (S1214 _ _ (s12 _ _ upd_same)), SqL.of upd_same, dps_ref, (S11.trans (s12.trans S1214)).reps rys, ?_, q _⟩
        exact reps_rep (ref_rep (S1214 _ _ h12)) 8
end
end W2

-- D18
set_option linter.all false
set_option maxRecDepth 100000
set_option maxHeartbeats 0
/-! what the top has written -/
namespace W2
open PySem PySem.Spec PyProof.Rows K2 L2
section
variable {P : Program} {w : World} {K : PySem.W.Frag} {mg : Str → Option Value} {base : Heap}
def DefAt (K : PySem.W.Frag) (x : Str) (st : Stmt) : Prop := ∃ f fd, PySem.W.nsIn K mainGlobals x = some (some (.ref f)) ∧ Fun K x x st f fd
theorem defAt_mk {x : Str} {st : Stmt} {f : Addr} {oc : Value} {od an : Option Addr} {osl : Array (Option Value)} {kV doc pm cdv ct : Value} (a : PySem.W.nsIn K mainGlobals x = some (some (.ref f)))
    (l : K.lookup f = some ⟨oc, od, .func (PySem.W.fnOf x x (defArgs st) (defBody st) (defScope st) .none kV doc pm an cdv ct), osl⟩)
    (c : PySem.W.codeIn K cdv x = true) (k : PySem.W.keepIn K (.ref f) = true) : DefAt K x st := ⟨f, _, a, fun_mk l c k⟩
abbrev BindsSt (x : Str) (st : Stmt) (ps : List Str) : Prop := ∀ (kV doc pm : Value) (an : Option Addr) (cdv ct : Value) (us : List Value), us.length = ps.length → bindArgs (PySem.W.fnOf x x (defArgs st) (defBody st) (defScope st) .none kV doc pm an cdv ct) ⟨us, []⟩ = pure (ps.zip us)
theorem has_of {h : Heap} {CX : CXT} {k : Nat} {x : Str} {st : Stmt} {ps : List Str} {sp : Sp} (X : K.In h) (G : h.Ns mainGlobals mg) (D : DefAt K x st) (hb : BindsSt x st ps)
    (ok : ∀ f fd, Fun K x x st f fd → Binds K fd ps [] → mg x = some (.ref f) → FnOk P w K mg base CX k f fd ps sp) : Has P w K mg base CX k x ps sp := by
  obtain ⟨f, fd, e, F⟩ := D
  have m := PySem.W.mg_of X G e
  have B := F.binds hb
  exact ⟨⟨f, fd, ok f fd F B m, B, m, F.kp⟩⟩
/-- the entries of a dict of the top, its keys texts -/
inductive Ents (Pm : Params) : List DictEntry → List (Str × V) → Prop
  | nil : Ents Pm [] []
  | cons {x : Str} {t : Tok} {u : Value} {v : V} {l : List DictEntry} {kvs : List (Str × V)} (r : RelV v u) (rest : Ents Pm l kvs) : Ents Pm (⟨PyData.keyHash Pm x, .str x t, u⟩ :: l) ((x, v) :: kvs)
theorem Ents.keys {Pm : Params} {prog : Program} {w : World} (hw : w.params = Pm) : ∀ {l : List DictEntry} {kvs : List (Str × V)}, Ents Pm l kvs → ∀ e ∈ l, ∃ k, (mixKind prog w).is k e.key = true ∧ e.hash = (mixKind prog w).hash k
  | _, _, .nil, _, h => nomatch h
  | _, _, .cons (x := x) (t := t) r rest, e, h => by
    cases h with
    | head => exact ⟨Sum.inr x, mixKind_str prog w x t, by subst hw; rfl⟩
    | tail _ h => exact rest.keys hw e h
theorem Ents.pairs {Pm : Params} {prog : Program} {w : World} : ∀ {l : List DictEntry} {kvs : List (Str × V)}, Ents Pm l kvs → ∃ vs : List (Key × Value), KV (kvs.map fun p => ((Sum.inr p.1 : Key), p.2)) vs ∧ Pairs (mixKind prog w) l vs ∧ vs.map (·.1) = kvs.map fun p => (Sum.inr p.1 : Key)
  | _, _, .nil => ⟨[], .nil, .nil, rfl⟩
  | _, _, .cons (x := x) (t := t) (u := u) r rest => by
    obtain ⟨vs, h1, h2, h3⟩ := rest.pairs (prog := prog) (w := w)
    exact ⟨(Sum.inr x, u) :: vs, .cons ⟨rfl, r⟩ h1, .cons (mixKind_str prog w x t) rfl h2, by rw [List.map_cons, List.map_cons, h3]⟩
theorem kdict_mk {a : Addr} {l : List DictEntry} {n : Nat} {kvs : List (Str × V)} (hl : K.lookup a = some ⟨.type "dict", none, .dict l.toArray n, #[]⟩) (R : Ents w.params l kvs) (hs : (a == sysModules) = false) (nd : (kvs.map (·.1)).Nodup) : KDict P w K a kvs := by
  refine ⟨hs, fun h X => ?_⟩
  obtain ⟨vs, h1, h2, h3⟩ := R.pairs (prog := P) (w := w)
  refine ⟨vs, h1, Heap.dictOf_iff.mpr ⟨_, X _ _ hl, l.toArray, n, ⟨rfl, rfl, rfl⟩, rfl, fun e he => R.keys rfl e (by simpa using he), h2, ?_⟩⟩
  rw [h3]
  have e : (kvs.map fun p => (Sum.inr p.1 : Key)) = (kvs.map (·.1)).map fun x => (Sum.inr x : Key) := by rw [List.map_map]; rfl
  rw [e]
  exact List.Pairwise.map _ (fun a b hab z => hab (Sum.inr.inj z)) nd
def kTup (K : PySem.W.Frag) (b : Addr) (xs : List V) : Prop := ∃ (o : Obj) (its : Array Value) (n : Nat), K.lookup b = some o ∧ o.cls = .type "tuple" ∧ o.data = .seq its n ∧ its.size ≤ sizeLine ∧ Vals xs its.toList
def FormsAt (w : World) (K : PySem.W.Frag) : Prop := ∃ (a : Addr) (l : List DictEntry) (n : Nat) (b1 b2 b3 b4 b5 b6 b7 b8 : Addr), PySem.W.nsIn K mainGlobals "FORMS" = some (some (.ref a)) ∧ K.lookup a = some ⟨.type "dict", none, .dict l.toArray n, #[]⟩ ∧ (a == sysModules) = false ∧
  Ents w.params l [("send", .ref b1), ("take", .ref b2), ("post", .ref b3), ("wait", .ref b4), ("tell", .ref b5), ("add", .ref b6), ("case", .ref b7), ("all", .ref b8)] ∧
  kTup K b1 [.str "hand", .str "mark", .str "thing"] ∧ kTup K b2 [.str "any hand", .str "any mark", .str "box"] ∧ kTup K b3 [.str "box", .str "any hand", .str "any mark", .str "box"] ∧ kTup K b4 [.str "box"] ∧
  kTup K b5 [.str "thing"] ∧ kTup K b6 [.str "box", .str "thing", .str "thing"] ∧ kTup K b7 [.str "box", .str "number", .str "rows", .str "rows"] ∧ kTup K b8 []
theorem sw1 : ("send" : Str) = S wSend := by decide +kernel
theorem sw2 : ("take" : Str) = S wTake := by decide +kernel
theorem sw3 : ("post" : Str) = S wPost := by decide +kernel
theorem sw4 : ("wait" : Str) = S wWait := by decide +kernel
theorem sw5 : ("tell" : Str) = S wTell := by decide +kernel
theorem sw6 : ("add" : Str) = S wAdd := by decide +kernel
theorem sw7 : ("case" : Str) = S wCase := by decide +kernel
theorem sw8 : ("all" : Str) = S wAll := by decide +kernel
theorem sBoxK : ("box" : Str) = S (kindT .box) := by decide +kernel
theorem sMarkK : ("mark" : Str) = S (kindT .mark) := by decide +kernel
theorem sThingK : ("thing" : Str) = S (kindT .thing) := by decide +kernel
theorem sNumberK : ("number" : Str) = S (kindT .number) := by decide +kernel
theorem sRowsK : ("rows" : Str) = S (kindT .rows) := by decide +kernel
theorem valK_cons (y : Str) (v : V) (r : List (Str × V)) (x : Str) : valK ((y, v) :: r) x = if x = y then some v else valK r x := by
  unfold valK
  rw [List.lookup_cons]
  by_cases h : x = y
  · subst h; rw [if_pos rfl]; simp
  · have h3 : (x == y) = false := by simpa using h
    rw [if_neg h]; simp only [h3]
theorem S_eq {x y : K2.T} : (S x = S y) = (x = y) := propext ⟨S_inj, fun h => h ▸ rfl⟩
theorem forms_of {h : Heap} (X : K.In h) (G : h.Ns mainGlobals mg) (A : FormsAt w K) : Forms P w K mg := by
  obtain ⟨a, l, n, b1, b2, b3, b4, b5, b6, b7, b8, e, hl, hs, R, t1, t2, t3, t4, t5, t6, t7, t8⟩ := A
  rw [sw1, sw2, sw3, sw4, sw5, sw6, sw7, sw8] at R
  rw [sHand, sMarkK, sThingK] at t1
  rw [sAnyHand, sAnyMark, sBoxK] at t2
  rw [sAnyHand, sAnyMark, sBoxK] at t3
  rw [sBoxK] at t4
  rw [sThingK] at t5
  rw [sBoxK, sThingK] at t6
  rw [sBoxK, sNumberK, sRowsK] at t7
  have hv : ∀ x : K2.T, valK [(S wSend, V.ref b1), (S wTake, V.ref b2), (S wPost, V.ref b3), (S wWait, V.ref b4), (S wTell, V.ref b5), (S wAdd, V.ref b6), (S wCase, V.ref b7), (S wAll, V.ref b8)] (S x) =
      if x = wSend then some (.ref b1) else if x = wTake then some (.ref b2) else if x = wPost then some (.ref b3) else if x = wWait then some (.ref b4) else if x = wTell then some (.ref b5) else if x = wAdd then some (.ref b6) else if x = wCase then some (.ref b7) else if x = wAll then some (.ref b8) else none := by
    intro x
    rw [valK_cons, valK_cons, valK_cons, valK_cons, valK_cons, valK_cons, valK_cons, valK_cons]
    simp only [S_eq]
    rfl
  have nd : (([(S wSend, V.ref b1), (S wTake, V.ref b2), (S wPost, V.ref b3), (S wWait, V.ref b4), (S wTell, V.ref b5), (S wAdd, V.ref b6), (S wCase, V.ref b7), (S wAll, V.ref b8)] : List (Str × V)).map (·.1)).Nodup := by
    show ([S wSend, S wTake, S wPost, S wWait, S wTell, S wAdd, S wCase, S wAll] : List Str).Nodup
    decide +kernel
  refine ⟨⟨a, _, PySem.W.mg_of X G e, kdict_mk hl R hs nd, ?_, ?_⟩⟩
  · intro x ks hf
    rw [hv]
    unfold form at hf
    by_cases c1 : x = wSend
    · rw [if_pos c1] at hf ⊢; cases hf; exact ⟨b1, rfl, fun H => .inr t1⟩
    rw [if_neg c1] at hf ⊢
    by_cases c2 : x = wTake
    · rw [if_pos c2] at hf ⊢; cases hf; exact ⟨b2, rfl, fun H => .inr t2⟩
    rw [if_neg c2] at hf ⊢
    by_cases c3 : x = wPost
    · rw [if_pos c3] at hf ⊢; cases hf; exact ⟨b3, rfl, fun H => .inr t3⟩
    rw [if_neg c3] at hf ⊢
    by_cases c4 : x = wWait
    · rw [if_pos c4] at hf ⊢; cases hf; exact ⟨b4, rfl, fun H => .inr t4⟩
    rw [if_neg c4] at hf ⊢
    by_cases c5 : x = wTell
    · rw [if_pos c5] at hf ⊢; cases hf; exact ⟨b5, rfl, fun H => .inr t5⟩
    rw [if_neg c5] at hf ⊢
    by_cases c6 : x = wAdd
    · rw [if_pos c6] at hf ⊢; cases hf; exact ⟨b6, rfl, fun H => .inr t6⟩
    rw [if_neg c6] at hf ⊢
    by_cases c7 : x = wCase
    · rw [if_pos c7] at hf ⊢; cases hf; exact ⟨b7, rfl, fun H => .inr t7⟩
    rw [if_neg c7] at hf ⊢
    by_cases c8 : x = wAll
    · rw [if_pos c8] at hf ⊢; cases hf; exact ⟨b8, rfl, fun H => .inr t8⟩
    rw [if_neg c8] at hf; cases hf
  · intro x hf
    rw [hv]
    unfold form at hf
    by_cases c1 : x = wSend
    · rw [if_pos c1] at hf; cases hf
    rw [if_neg c1] at hf ⊢
    by_cases c2 : x = wTake
    · rw [if_pos c2] at hf; cases hf
    rw [if_neg c2] at hf ⊢
    by_cases c3 : x = wPost
    · rw [if_pos c3] at hf; cases hf
    rw [if_neg c3] at hf ⊢
    by_cases c4 : x = wWait
    · rw [if_pos c4] at hf; cases hf
    rw [if_neg c4] at hf ⊢
    by_cases c5 : x = wTell
    · rw [if_pos c5] at hf; cases hf
    rw [if_neg c5] at hf ⊢
    by_cases c6 : x = wAdd
    · rw [if_pos c6] at hf; cases hf
    rw [if_neg c6] at hf ⊢
    by_cases c7 : x = wCase
    · rw [if_pos c7] at hf; cases hf
    rw [if_neg c7] at hf ⊢
    by_cases c8 : x = wAll
    · rw [if_pos c8] at hf; cases hf
    rw [if_neg c8]
def ChecksAt (w : World) (K : PySem.W.Frag) : Prop := ∃ (a : Addr) (l : List DictEntry) (n : Nat) (f1 f2 f3 f4 f5 : Addr), PySem.W.nsIn K mainGlobals "CHECKS" = some (some (.ref a)) ∧ K.lookup a = some ⟨.type "dict", none, .dict l.toArray n, #[]⟩ ∧ (a == sysModules) = false ∧
  Ents w.params l [("mark", .ref f1), ("any mark", .ref f1), ("number", .ref f2), ("box", .ref f3), ("thing", .ref f4), ("rows", .ref f5)] ∧
  PySem.W.nsIn K mainGlobals "is_mark" = some (some (.ref f1)) ∧ PySem.W.nsIn K mainGlobals "is_number" = some (some (.ref f2)) ∧ PySem.W.nsIn K mainGlobals "is_box" = some (some (.ref f3)) ∧ PySem.W.nsIn K mainGlobals "is_thing" = some (some (.ref f4)) ∧ PySem.W.nsIn K mainGlobals "is_rows" = some (some (.ref f5))
theorem at_has {h : Heap} {k : Nat} {x : Str} {ps : List Str} {sp : Sp} {f : Addr} (X : K.In h) (G : h.Ns mainGlobals mg) (e : PySem.W.nsIn K mainGlobals x = some (some (.ref f))) (H : Has P w K mg base CX0 k x ps sp) (hk : k ≤ 3) :
    ∃ fd, FnOk P w K mg base CX0 3 f fd ps sp ∧ Binds K fd ps [] ∧ PySem.W.keepIn K (.ref f) = true := by
  obtain ⟨g, fd, F, B, m, kp⟩ := H.ex
  have := m.symm.trans (PySem.W.mg_of X G e)
  cases this
  exact ⟨fd, F.mono hk, B, kp⟩
theorem checks_of {h : Heap} (X : K.In h) (G : h.Ns mainGlobals mg) (A : ChecksAt w K) (h1 : HasP P w K mg base 2 "is_mark" isMark) (h2 : HasP P w K mg base 2 "is_number" isNumber) (h3 : HasP P w K mg base 1 "is_box" isBox) (h4 : HasP P w K mg base 3 "is_thing" isThing)
    (h5 : HasP P w K mg base 1 "is_rows" isRows) : Checks P w K mg base := by
  obtain ⟨a, l, n, f1, f2, f3, f4, f5, e, hl, hs, R, e1, e2, e3, e4, e5⟩ := A
  rw [sMarkK, sAnyMark, sNumberK, sBoxK, sThingK, sRowsK] at R
  have hv : ∀ x : K2.T, valK [(S (kindT .mark), V.ref f1), (S (kindT .anyMark), V.ref f1), (S (kindT .number), V.ref f2), (S (kindT .box), V.ref f3), (S (kindT .thing), V.ref f4), (S (kindT .rows), V.ref f5)] (S x) =
      if x = kindT .mark then some (.ref f1) else if x = kindT .anyMark then some (.ref f1) else if x = kindT .number then some (.ref f2) else if x = kindT .box then some (.ref f3) else if x = kindT .thing then some (.ref f4) else if x = kindT .rows then some (.ref f5) else none := by
    intro x
    rw [valK_cons, valK_cons, valK_cons, valK_cons, valK_cons, valK_cons]
    simp only [S_eq]
    rfl
  have nd : (([(S (kindT .mark), V.ref f1), (S (kindT .anyMark), V.ref f1), (S (kindT .number), V.ref f2), (S (kindT .box), V.ref f3), (S (kindT .thing), V.ref f4), (S (kindT .rows), V.ref f5)] : List (Str × V)).map (·.1)).Nodup := by
    show ([S (kindT .mark), S (kindT .anyMark), S (kindT .number), S (kindT .box), S (kindT .thing), S (kindT .rows)] : List Str).Nodup
    decide +kernel
  refine ⟨⟨a, _, PySem.W.mg_of X G e, kdict_mk hl R hs nd, ?_⟩⟩
  intro k n1 n2
  rw [hv]
  cases k with
  | hand => exact absurd rfl n1
  | anyHand => exact absurd rfl n2
  | mark => obtain ⟨fd, q⟩ := at_has X G e1 h1 (by decide); exact ⟨f1, fd, rfl, q⟩
  | anyMark => obtain ⟨fd, q⟩ := at_has X G e1 h1 (by decide); exact ⟨f1, fd, rfl, q⟩
  | number => obtain ⟨fd, q⟩ := at_has X G e2 h2 (by decide); exact ⟨f2, fd, rfl, q⟩
  | box => obtain ⟨fd, q⟩ := at_has X G e3 h3 (by decide); exact ⟨f3, fd, rfl, q⟩
  | thing => obtain ⟨fd, q⟩ := at_has X G e4 h4 (by decide); exact ⟨f4, fd, rfl, q⟩
  | rows => obtain ⟨fd, q⟩ := at_has X G e5 h5 (by decide); exact ⟨f5, fd, rfl, q⟩
theorem lr_none {f : Addr} {fd : FuncData} : FnOk P w K mg base CX0 3 f fd ["_law_script", "_law_town_here", "_law_me", "_law_hands", "_law_wild", "_law_deep"] (spLR K 0) := by
  have no : ∀ vs H Q E, ¬ spLR K 0 vs H Q E := fun vs H Q E ⟨a, t, ns, c, n, me, _, h1, _⟩ => absurd h1 (by decide)
  exact ⟨fun vs H Q E h => absurd h (no vs H Q E), fun A outer s H args us vs Q E _ _ _ _ h => absurd h (no vs H Q E)⟩
/-- isinstance of another class of refusals -/
theorem kit_no {c d : Addr} (ne : (Value.ref c == Value.ref d) = false) (h1 : PySem.W.isClsIn K d = true) (h2 : PySem.W.typeIn K (.ref d) = some (.type "type")) (h3 : PySem.W.subIn K (.ref c) (.ref d) = some false) : PySem.W.kitOne K (.ref c) (.ref d) = some false := by
  unfold PySem.W.kitOne PySem.W.kitCls
  rw [ne, if_neg Bool.false_ne_true]
  unfold PySem.W.isClsIn at h1
  dsimp only
  rw [h1, h2, if_pos (by simp)]
  exact h3
theorem kit_lk {c : Addr} (h3 : PySem.W.subIn K (.ref c) (.type "LookupError") = some true) : PySem.W.kitOne K (.ref c) (.type "LookupError") = some true := by
  unfold PySem.W.kitOne PySem.W.kitCls
  have ne : (Value.ref c == Value.type "LookupError") = false := rfl
  rw [ne, if_neg Bool.false_ne_true]
  dsimp only
  rw [if_pos (by decide +kernel)]
  exact h3
theorem exm_yes {c d : Addr} (h0 : PySem.W.subIn K (.ref d) (.type "BaseException") = some true) (h1 : PySem.W.isClsIn K d = true) (h2 : PySem.W.typeIn K (.ref d) = some (.type "type")) (h3 : PySem.W.subIn K (.ref c) (.ref d) = some true) : PySem.W.exmOne K (.ref c) (.ref d) = some true := by
  unfold PySem.W.exmOne PySem.W.kitCls
  unfold PySem.W.isClsIn at h1
  rw [h0, if_pos (by simp)]
  dsimp only
  rw [h1, h2, if_pos (by simp)]
  exact h3
/-- an own class of refusals beside another -/
def NoKin (K : PySem.W.Frag) (CB : Addr) (x : Str) : Prop := ∃ c, PySem.W.nsIn K mainGlobals x = some (some (.ref c)) ∧ PySem.W.kitOne K (.ref CB) (.ref c) = some false
theorem noKin_mk {x : Str} {c CB : Addr} (a : PySem.W.nsIn K mainGlobals x = some (some (.ref c))) (ne : (Value.ref CB == Value.ref c) = false) (h1 : PySem.W.isClsIn K c = true) (h2 : PySem.W.typeIn K (.ref c) = some (.type "type")) (h3 : PySem.W.subIn K (.ref CB) (.ref c) = some false) : NoKin K CB x := ⟨c, a, kit_no ne h1 h2 h3⟩
theorem NoKin.at_ {h : Heap} {CB : Addr} {x : Str} (X : K.In h) (G : h.Ns mainGlobals mg) (n : NoKin K CB x) : ∃ c, mg x = some (.ref c) ∧ PySem.W.kitOne K (.ref CB) (.ref c) = some false := by
  obtain ⟨c, a, e⟩ := n; exact ⟨c, PySem.W.mg_of X G a, e⟩
def TextErr (K : PySem.W.Frag) : Prop := ∃ CB CT, PySem.W.nsIn K mainGlobals "BadText" = some (some (.ref CB)) ∧ XCls K CB ∧ PySem.W.excIn K CB lkB "LookupError.__new__" = true ∧ PySem.W.subIn K (.ref CB) (.type "LookupError") = some true ∧ NoKin K CB "BadProgram" ∧ NoKin K CB "BadRoom" ∧ NoKin K CB "BadOrder" ∧ NoKin K CB "BadMeetings" ∧
  NoKin K CB "NoEvent" ∧ NoKin K CB "NotEnded" ∧ NoKin K CB "TooMany" ∧ NoKin K CB "Wild" ∧ PySem.W.nsIn K mainGlobals "TakeError" = some (some (.ref CT)) ∧ PySem.W.exmOne K (.ref CB) (.ref CT) = some true
theorem textErr_of {h : Heap} (X : K.In h) (G : h.Ns mainGlobals mg) (A : TextErr K) : ∃ CB, mg "BadText" = some (.ref CB) ∧ PySem.W.excIn K CB lkB "LookupError.__new__" = true ∧ Exs K mg CB := by
  obtain ⟨CB, CT, a, x, ex, lk, n1, n2, n3, n4, n5, n6, n7, n8, b, em⟩ := A
  have m := PySem.W.mg_of X G a
  exact ⟨CB, m, ex, x, m, n1.at_ X G, n2.at_ X G, n3.at_ X G, n4.at_ X G, n5.at_ X G, n6.at_ X G, n7.at_ X G, n8.at_ X G, kit_lk lk, CT, PySem.W.mg_of X G b, em⟩
theorem scr_of {H : Hp} {a : Addr} {ns : List Int} (hO : Only H) (hS : SqL K H a (ns.map V.int)) : Scr K H a ns := by
  rcases hS with (h | ⟨o, h⟩) | h
  · rcases hO a with q | ⟨o, xs, q⟩
    · rw [h] at q; cases q
    · rw [h] at q; cases q
  · exact .inl ⟨o, h⟩
  · exact .inr h
theorem forms_mk {a : Addr} {l : List DictEntry} {n : Nat} {b1 b2 b3 b4 b5 b6 b7 b8 : Addr} (h1 : PySem.W.nsIn K mainGlobals "FORMS" = some (some (.ref a))) (h2 : K.lookup a = some ⟨.type "dict", none, .dict l.toArray n, #[]⟩) (h3 : (a == sysModules) = false)
    (h4 : Ents w.params l [("send", .ref b1), ("take", .ref b2), ("post", .ref b3), ("wait", .ref b4), ("tell", .ref b5), ("add", .ref b6), ("case", .ref b7), ("all", .ref b8)])
    (t1 : kTup K b1 [.str "hand", .str "mark", .str "thing"]) (t2 : kTup K b2 [.str "any hand", .str "any mark", .str "box"]) (t3 : kTup K b3 [.str "box", .str "any hand", .str "any mark", .str "box"]) (t4 : kTup K b4 [.str "box"])
    (t5 : kTup K b5 [.str "thing"]) (t6 : kTup K b6 [.str "box", .str "thing", .str "thing"]) (t7 : kTup K b7 [.str "box", .str "number", .str "rows", .str "rows"]) (t8 : kTup K b8 []) : FormsAt w K := ⟨a, l, n, b1, b2, b3, b4, b5, b6, b7, b8, h1, h2, h3, h4, t1, t2, t3, t4, t5, t6, t7, t8⟩
theorem kTup_mk {b : Addr} {xs : List V} {dd : Option Addr} {its : List Value} {n : Nat} {sl : Array (Option Value)} (h1 : K.lookup b = some ⟨.type "tuple", dd, .seq its.toArray n, sl⟩) (h2 : its.toArray.size ≤ sizeLine) (h3 : Vals xs its) : kTup K b xs := ⟨_, _, _, h1, rfl, rfl, h2, h3⟩
theorem checks_mk {a : Addr} {l : List DictEntry} {n : Nat} {f1 f2 f3 f4 f5 : Addr} (h1 : PySem.W.nsIn K mainGlobals "CHECKS" = some (some (.ref a))) (h2 : K.lookup a = some ⟨.type "dict", none, .dict l.toArray n, #[]⟩) (h3 : (a == sysModules) = false)
    (h4 : Ents w.params l [("mark", .ref f1), ("any mark", .ref f1), ("number", .ref f2), ("box", .ref f3), ("thing", .ref f4), ("rows", .ref f5)])
    (g1 : PySem.W.nsIn K mainGlobals "is_mark" = some (some (.ref f1))) (g2 : PySem.W.nsIn K mainGlobals "is_number" = some (some (.ref f2))) (g3 : PySem.W.nsIn K mainGlobals "is_box" = some (some (.ref f3))) (g4 : PySem.W.nsIn K mainGlobals "is_thing" = some (some (.ref f4))) (g5 : PySem.W.nsIn K mainGlobals "is_rows" = some (some (.ref f5))) : ChecksAt w K := ⟨a, l, n, f1, f2, f3, f4, f5, h1, h2, h3, h4, g1, g2, g3, g4, g5⟩
theorem textErr_mk {CB CT : Addr} (a : PySem.W.nsIn K mainGlobals "BadText" = some (some (.ref CB)))
    (x1 : PySem.W.findIn K (.ref CB) "__getattribute__" = some (some (.builtin "BaseException.__getattribute__"))) (x2 : PySem.W.findIn K (.ref CB) "__getattr__" = some none) (x3 : PySem.W.findIn K (.ref CB) "__class__" = some (some (.builtin "object.__class__")))
    (x4 : PySem.W.specialIn K (.builtin "object.__class__") "__get__" = some (some (.builtin "getset_descriptor.__get__"))) (x5 : PySem.W.takesIn K (.builtin "object.__class__") = some true) (x6 : PySem.W.mroIn K CB (.type "object") = some true) (x7 : PySem.W.mroIn K CB (.type "BaseException") = some true) (x8 : PySem.W.isClsIn K CB = true)
    (ex : PySem.W.excIn K CB lkB "LookupError.__new__" = true) (lk : PySem.W.subIn K (.ref CB) (.type "LookupError") = some true) (n1 : NoKin K CB "BadProgram") (n2 : NoKin K CB "BadRoom") (n3 : NoKin K CB "BadOrder") (n4 : NoKin K CB "BadMeetings")
    (n5 : NoKin K CB "NoEvent") (n6 : NoKin K CB "NotEnded") (n7 : NoKin K CB "TooMany") (n8 : NoKin K CB "Wild") (b : PySem.W.nsIn K mainGlobals "TakeError" = some (some (.ref CT))) (em : PySem.W.exmOne K (.ref CB) (.ref CT) = some true) : TextErr K :=
  ⟨CB, CT, a, ⟨x1, x2, x3, x4, x5, x6, x7, x8⟩, ex, lk, n1, n2, n3, n4, n5, n6, n7, n8, b, em⟩
end
end W2

-- D19
set_option linter.all false
set_option maxRecDepth 100000
set_option maxHeartbeats 0
/-! the head -/
namespace W2
open PySem PySem.Spec PyProof.Rows K2 L2
section
variable {P : Program} {w : World} {K : PySem.W.Frag} {mg : Str → Option Value} {base : Heap}
theorem bi0 : BindsSt "is_whole" sWhole ["thing"] := fun _ _ _ _ _ _ us hl => match us, hl with | [_], _ => rfl
theorem bi1 : BindsSt "is_mark" sMark ["thing"] := fun _ _ _ _ _ _ us hl => match us, hl with | [_], _ => rfl
theorem bi2 : BindsSt "is_number" sNumber ["thing"] := fun _ _ _ _ _ _ us hl => match us, hl with | [_], _ => rfl
theorem bi3 : BindsSt "is_box" sBox ["thing"] := fun _ _ _ _ _ _ us hl => match us, hl with | [_], _ => rfl
theorem bi4 : BindsSt "is_thing" sThing ["thing"] := fun _ _ _ _ _ _ us hl => match us, hl with | [_], _ => rfl
theorem bi5 : BindsSt "is_rows" sRows ["thing"] := fun _ _ _ _ _ _ us hl => match us, hl with | [_], _ => rfl
theorem bi6 : BindsSt "may_be_any" sAny ["kind"] := fun _ _ _ _ _ _ us hl => match us, hl with | [_], _ => rfl
theorem bi7 : BindsSt "fits_place" sFits ["thing", "kind", "others"] := fun _ _ _ _ _ _ us hl => match us, hl with | [_, _, _], _ => rfl
theorem bi8 : BindsSt "is_row" sRow ["row", "others"] := fun _ _ _ _ _ _ us hl => match us, hl with | [_, _], _ => rfl
theorem bi9 : BindsSt "rows_within" sWithin ["row"] := fun _ _ _ _ _ _ us hl => match us, hl with | [_], _ => rfl
theorem bi10 : BindsSt "count_rows" sCount ["script", "others"] := fun _ _ _ _ _ _ us hl => match us, hl with | [_, _], _ => rfl
theorem bi11 : BindsSt "is_program" sProgram ["thing"] := fun _ _ _ _ _ _ us hl => match us, hl with | [_], _ => rfl
theorem bi12 : BindsSt "check_program" sCheck ["thing"] := fun _ _ _ _ _ _ us hl => match us, hl with | [_], _ => rfl
theorem bi13 : BindsSt "word_text" sWord ["thing"] := fun _ _ _ _ _ _ us hl => match us, hl with | [_], _ => rfl
theorem bi14 : BindsSt "rows_text" sRText ["rows"] := fun _ _ _ _ _ _ us hl => match us, hl with | [_], _ => rfl
theorem bi15 : BindsSt "program_text" sPText ["program"] := fun _ _ _ _ _ _ us hl => match us, hl with | [_], _ => rfl
theorem bi16 : BindsSt "is_number_text" sNText ["word"] := fun _ _ _ _ _ _ us hl => match us, hl with | [_], _ => rfl
theorem bi17 : BindsSt "next_kind" sNext ["row"] := fun _ _ _ _ _ _ us hl => match us, hl with | [_], _ => rfl
theorem bi18 : BindsSt "read_word" sRWord ["word", "row"] := fun _ _ _ _ _ _ us hl => match us, hl with | [_, _], _ => rfl
theorem bi19 : BindsSt "split_words" sSplit ["line"] := fun _ _ _ _ _ _ us hl => match us, hl with | [_], _ => rfl
theorem bi20 : BindsSt "with_last" sWith ["rows", "row"] := fun _ _ _ _ _ _ us hl => match us, hl with | [_, _], _ => rfl
theorem bi21 : BindsSt "read_line" sLine ["line"] := fun _ _ _ _ _ _ us hl => match us, hl with | [_], _ => rfl
theorem bi22 : BindsSt "read_program" sRead ["text"] := fun _ _ _ _ _ _ us hl => match us, hl with | [_], _ => rfl
theorem bi23 : BindsSt "_law_town" sTown ["_law_script"] := fun _ _ _ _ _ _ us hl => match us, hl with | [_], _ => rfl
theorem bi24 : BindsSt "_law_draw" sDraw ["_law_script", "_law_town_here", "_law_many"] := fun _ _ _ _ _ _ us hl => match us, hl with | [_, _, _], _ => rfl
theorem bi25 : BindsSt "_law_pick" sPick ["_law_script", "_law_town_here", "_law_some"] := fun _ _ _ _ _ _ us hl => match us, hl with | [_, _, _], _ => rfl
theorem bi26 : BindsSt "_law_word" sLWord ["_law_caught"] := fun _ _ _ _ _ _ us hl => match us, hl with | [_], _ => rfl
theorem bi27 : BindsSt "_law_refused" sRefused ["_law_word_here"] := fun _ _ _ _ _ _ us hl => match us, hl with | [_], _ => rfl
theorem bi28 : BindsSt "_law_told" sTold ["_law_way", "_law_some"] := fun _ _ _ _ _ _ us hl => match us, hl with | [_, _], _ => rfl
theorem bi29 : BindsSt "_law_thing" sLThing ["_law_script", "_law_town_here"] := fun _ _ _ _ _ _ us hl => match us, hl with | [_, _], _ => rfl
theorem bi30 : BindsSt "_law_row" sLRow ["_law_script", "_law_town_here", "_law_me", "_law_hands", "_law_wild", "_law_deep"] := fun _ _ _ _ _ _ us hl => match us, hl with | [_, _, _, _, _, _], _ => rfl
theorem bi31 : BindsSt "_law_program" sLProgram ["_law_script", "_law_town_here", "_law_hands", "_law_most_rows", "_law_wild"] := fun _ _ _ _ _ _ us hl => match us, hl with | [_, _, _, _, _], _ => rfl
theorem bi32 : BindsSt "_law_one" sOne ["_law_way", "_law_some"] := fun _ _ _ _ _ _ us hl => match us, hl with | [_, _], _ => rfl
theorem bi33 : BindsSt "_law_rows" sLRows ["_law_rows_here"] := fun _ _ _ _ _ _ us hl => match us, hl with | [_], _ => rfl
theorem bi34 : BindsSt "_law_part" sPart ["_law_part_here"] := fun _ _ _ _ _ _ us hl => match us, hl with | [_], _ => rfl
theorem bi35 : BindsSt "law" sLaw ["_law_script"] := fun _ _ _ _ _ _ us hl => match us, hl with | [_], _ => rfl
def NamesAt (K : PySem.W.Frag) : Prop := PySem.W.nsIn K mainGlobals "isinstance" = some none ∧ PySem.W.nsIn K mainGlobals "int" = some none ∧ PySem.W.nsIn K mainGlobals "bool" = some none ∧ PySem.W.nsIn K mainGlobals "str" = some none ∧ PySem.W.nsIn K mainGlobals "len" = some none ∧ PySem.W.nsIn K mainGlobals "all" = some none ∧ PySem.W.nsIn K mainGlobals "tuple" = some none ∧ PySem.W.nsIn K mainGlobals "zip" = some none ∧ PySem.W.nsIn K mainGlobals "enumerate" = some none ∧ PySem.W.nsIn K mainGlobals "range" = some none ∧ PySem.W.nsIn K mainGlobals "list" = some none ∧ PySem.W.nsIn K mainGlobals "LookupError" = some none ∧
  (∃ t, PySem.W.nsIn K mainGlobals "LETTERS" = some (some (.str "abcdefghijklmnopqrstuvwxyz" t))) ∧ (∃ t, PySem.W.nsIn K mainGlobals "DIGITS" = some (some (.str "0123456789" t))) ∧ (∃ t, PySem.W.nsIn K mainGlobals "LONGEST_BOX" = some (some (.int 3 t))) ∧ (∃ t, PySem.W.nsIn K mainGlobals "HIGHEST_MARK" = some (some (.int 9 t))) ∧ (∃ t, PySem.W.nsIn K mainGlobals "HIGHEST_NUMBER" = some (some (.int 1000000 t))) ∧ (∃ t, PySem.W.nsIn K mainGlobals "MOST_DIGITS" = some (some (.int 7 t))) ∧ (∃ t, PySem.W.nsIn K mainGlobals "LEAST_HANDS" = some (some (.int 2 t))) ∧ (∃ t, PySem.W.nsIn K mainGlobals "MOST_HANDS" = some (some (.int 5 t))) ∧ (∃ t, PySem.W.nsIn K mainGlobals "MOST_ROWS" = some (some (.int 40 t)))
theorem names_of {h : Heap} (X : K.In h) (G : h.Ns mainGlobals mg) (A : NamesAt K) : Tx mg := by
  obtain ⟨z0, z1, z2, z3, z4, z5, z6, z7, z8, z9, z10, z11, ⟨t0, c0⟩, ⟨t1, c1⟩, ⟨t2, c2⟩, ⟨t3, c3⟩, ⟨t4, c4⟩, ⟨t5, c5⟩, ⟨t6, c6⟩, ⟨t7, c7⟩, ⟨t8, c8⟩⟩ := A
  exact ⟨PySem.W.mg_none_of X G z0, PySem.W.mg_none_of X G z1, PySem.W.mg_none_of X G z2, PySem.W.mg_none_of X G z3, PySem.W.mg_none_of X G z4, PySem.W.mg_none_of X G z5, PySem.W.mg_none_of X G z6, PySem.W.mg_none_of X G z7, PySem.W.mg_none_of X G z8, PySem.W.mg_none_of X G z9, PySem.W.mg_none_of X G z10, PySem.W.mg_none_of X G z11, ⟨t0, PySem.W.mg_of X G c0⟩, ⟨t1, PySem.W.mg_of X G c1⟩, ⟨t2, PySem.W.mg_of X G c2⟩, ⟨t3, PySem.W.mg_of X G c3⟩, ⟨t4, PySem.W.mg_of X G c4⟩, ⟨t5, PySem.W.mg_of X G c5⟩, ⟨t6, PySem.W.mg_of X G c6⟩, ⟨t7, PySem.W.mg_of X G c7⟩, ⟨t8, PySem.W.mg_of X G c8⟩⟩
theorem names_mk {t0 t1 t2 t3 t4 t5 t6 t7 t8 : Tok} (z0 : PySem.W.nsIn K mainGlobals "isinstance" = some none) (z1 : PySem.W.nsIn K mainGlobals "int" = some none) (z2 : PySem.W.nsIn K mainGlobals "bool" = some none) (z3 : PySem.W.nsIn K mainGlobals "str" = some none) (z4 : PySem.W.nsIn K mainGlobals "len" = some none) (z5 : PySem.W.nsIn K mainGlobals "all" = some none) (z6 : PySem.W.nsIn K mainGlobals "tuple" = some none) (z7 : PySem.W.nsIn K mainGlobals "zip" = some none) (z8 : PySem.W.nsIn K mainGlobals "enumerate" = some none) (z9 : PySem.W.nsIn K mainGlobals "range" = some none) (z10 : PySem.W.nsIn K mainGlobals "list" = some none) (z11 : PySem.W.nsIn K mainGlobals "LookupError" = some none) (c0 : PySem.W.nsIn K mainGlobals "LETTERS" = some (some (.str "abcdefghijklmnopqrstuvwxyz" t0))) (c1 : PySem.W.nsIn K mainGlobals "DIGITS" = some (some (.str "0123456789" t1))) (c2 : PySem.W.nsIn K mainGlobals "LONGEST_BOX" = some (some (.int 3 t2))) (c3 : PySem.W.nsIn K mainGlobals "HIGHEST_MARK" = some (some (.int 9 t3))) (c4 : PySem.W.nsIn K mainGlobals "HIGHEST_NUMBER" = some (some (.int 1000000 t4))) (c5 : PySem.W.nsIn K mainGlobals "MOST_DIGITS" = some (some (.int 7 t5))) (c6 : PySem.W.nsIn K mainGlobals "LEAST_HANDS" = some (some (.int 2 t6))) (c7 : PySem.W.nsIn K mainGlobals "MOST_HANDS" = some (some (.int 5 t7))) (c8 : PySem.W.nsIn K mainGlobals "MOST_ROWS" = some (some (.int 40 t8))) : NamesAt K :=
  ⟨z0, z1, z2, z3, z4, z5, z6, z7, z8, z9, z10, z11, ⟨_, c0⟩, ⟨_, c1⟩, ⟨_, c2⟩, ⟨_, c3⟩, ⟨_, c4⟩, ⟨_, c5⟩, ⟨_, c6⟩, ⟨_, c7⟩, ⟨_, c8⟩⟩
theorem law_ok {h : Heap} {fa : Addr} (X : K.In h) (G : h.Ns mainGlobals mg) (hfa : mg "law" = some (.ref fa)) (nn : NamesAt K) (fo : FormsAt w K) (ck : ChecksAt w K) (te : TextErr K)
    (d0 : DefAt K "is_whole" sWhole)
    (d1 : DefAt K "is_mark" sMark)
    (d2 : DefAt K "is_number" sNumber)
    (d3 : DefAt K "is_box" sBox)
    (d4 : DefAt K "is_thing" sThing)
    (d5 : DefAt K "is_rows" sRows)
    (d6 : DefAt K "may_be_any" sAny)
    (d7 : DefAt K "fits_place" sFits)
    (d8 : DefAt K "is_row" sRow)
    (d9 : DefAt K "rows_within" sWithin)
    (d10 : DefAt K "count_rows" sCount)
    (d11 : DefAt K "is_program" sProgram)
    (d12 : DefAt K "check_program" sCheck)
    (d13 : DefAt K "word_text" sWord)
    (d14 : DefAt K "rows_text" sRText)
    (d15 : DefAt K "program_text" sPText)
    (d16 : DefAt K "is_number_text" sNText)
    (d17 : DefAt K "next_kind" sNext)
    (d18 : DefAt K "read_word" sRWord)
    (d19 : DefAt K "split_words" sSplit)
    (d20 : DefAt K "with_last" sWith)
    (d21 : DefAt K "read_line" sLine)
    (d22 : DefAt K "read_program" sRead)
    (d23 : DefAt K "_law_town" sTown)
    (d24 : DefAt K "_law_draw" sDraw)
    (d25 : DefAt K "_law_pick" sPick)
    (d26 : DefAt K "_law_word" sLWord)
    (d27 : DefAt K "_law_refused" sRefused)
    (d28 : DefAt K "_law_told" sTold)
    (d29 : DefAt K "_law_thing" sLThing)
    (d30 : DefAt K "_law_row" sLRow)
    (d31 : DefAt K "_law_program" sLProgram)
    (d32 : DefAt K "_law_one" sOne)
    (d33 : DefAt K "_law_rows" sLRows)
    (d34 : DefAt K "_law_part" sPart)
    (d35 : DefAt K "law" sLaw)
    : ∃ fd : FuncData, (∀ (s : Shared) (v : Value), BindsTo s fd ⟨[v], []⟩ [("_law_script", v)]) ∧ ∀ base : Heap, K.In base → base.Ns mainGlobals mg → FnOk P w K mg base CX0 86 fa fd ["_law_script"] (spLaw K) := by
  have T := names_of X G nn
  have C := forms_of (P := P) X G fo
  obtain ⟨CB, mB, hxB, exs⟩ := textErr_of X G te
  obtain ⟨f, fd, e, F⟩ := d35
  have e0 := hfa.symm.trans (PySem.W.mg_of X G e)
  cases e0
  have Z := F.ex
  obtain ⟨oc, od, kV, doc, pm, an, cdv, ct, osl, rfl, lk, hcd⟩ := Z
  refine ⟨PySem.W.fnOf "law" "law" (defArgs sLaw) (defBody sLaw) (defScope sLaw) .none kV doc pm an cdv ct, fun s v => .of_eq rfl, fun base _ _ => ?_⟩
  have h_whole : Has P w K mg base CX0 1 "is_whole" ["thing"] (spP isWhole) := has_of X G d0 bi0 fun f fd F B m => ok_whole F T
  have h_mark : Has P w K mg base CX0 2 "is_mark" ["thing"] (spP isMark) := has_of X G d1 bi1 fun f fd F B m => ok_mark F T h_whole
  have h_number : Has P w K mg base CX0 2 "is_number" ["thing"] (spP isNumber) := has_of X G d2 bi2 fun f fd F B m => ok_number F T h_whole
  have h_box : Has P w K mg base CX0 1 "is_box" ["thing"] (spP isBox) := has_of X G d3 bi3 fun f fd F B m => ok_box F T
  have h_thing : Has P w K mg base CX0 3 "is_thing" ["thing"] (spP isThing) := has_of X G d4 bi4 fun f fd F B m => ok_thing F h_number h_box
  have h_rows : Has P w K mg base CX0 1 "is_rows" ["thing"] (spP isRows) := has_of X G d5 bi5 fun f fd F B m => ok_rows F T
  have Ck := checks_of X G ck h_mark h_number h_box h_thing h_rows
  have h_any : Has P w K mg base CX0 1 "may_be_any" ["kind"] spAny := has_of X G d6 bi6 fun f fd F B m => ok_any F
  have h_fits : Has P w K mg base CX0 4 "fits_place" ["thing", "kind", "others"] spFits := has_of X G d7 bi7 fun f fd F B m => ok_fits F T h_any h_whole Ck
  have h_row : Has P w K mg base CX0 5 "is_row" ["row", "others"] spRow := has_of X G d8 bi8 fun f fd F B m => ok_row F T h_fits C
  have h_within : Has P w K mg base CX0 1 "rows_within" ["row"] spWithin := has_of X G d9 bi9 fun f fd F B m => ok_within F
  have h_count : Has P w K mg base CX0 6 "count_rows" ["script", "others"] spCount := has_of X G d10 bi10 fun f fd F B m => ok_count F T h_row h_within
  have h_prog : Has P w K mg base CX0 7 "is_program" ["thing"] (spP isProg) := has_of X G d11 bi11 fun f fd F B m => ok_program F T h_count
  have h_check : Has P w K mg base CX0 8 "check_program" ["thing"] spCheck := has_of X G d12 bi12 fun f fd F B m => ok_check F h_prog
  have h_word : Has P w K mg base CX0 1 "word_text" ["thing"] spWord := has_of X G d13 bi13 fun f fd F B m => ok_word F T
  have h_rtext : Has P w K mg base CX0 43 "rows_text" ["rows"] (spRT 42) := has_of X G d14 bi14 fun f fd F B m => ok_rtext F B m T h_word 42
  have h_ptext : Has P w K mg base CX0 44 "program_text" ["program"] spPT := has_of X G d15 bi15 fun f fd F B m => ok_ptext F h_check h_rtext
  have h_ntext : Has P w K mg base CX0 1 "is_number_text" ["word"] spNT := has_of X G d16 bi16 fun f fd F B m => ok_ntext F T
  have h_next : Has P w K mg base CX0 1 "next_kind" ["row"] spNK := has_of X G d17 bi17 fun f fd F B m => ok_next F T C
  have h_rword : Has P w K mg base CX0 2 "read_word" ["word", "row"] spRW := has_of X G d18 bi18 fun f fd F B m => ok_rword F T h_any h_next h_ntext
  have h_split : Has P w K mg base CX0 1 "split_words" ["line"] spSW := has_of X G d19 bi19 fun f fd F B m => ok_split F
  have h_with : Has P w K mg base CX0 1 "with_last" ["rows", "row"] spWL := has_of X G d20 bi20 fun f fd F B m => ok_with F T
  have h_line : Has P w K mg base (CX1 P w) 3 "read_line" ["line"] (spRL CB) := has_of X G d21 bi21 fun f fd F B m => ok_line F T mB hxB h_split h_with h_rword
  have h_read : Has P w K mg base (CX1 P w) 45 "read_program" ["text"] (spRP CB) := has_of X G d22 bi22 fun f fd F B m => ok_read F T mB hxB h_line h_prog h_ptext
  have h_town : Has P w K mg base CX0 1 "_law_town" ["_law_script"] (spTown K) := has_of X G d23 bi23 fun f fd F B m => ok_town F T
  have h_draw : Has P w K mg base CX0 1 "_law_draw" ["_law_script", "_law_town_here", "_law_many"] (spDraw K) := has_of X G d24 bi24 fun f fd F B m => ok_draw F T
  have h_pick : Has P w K mg base CX0 2 "_law_pick" ["_law_script", "_law_town_here", "_law_some"] (spPick K) := has_of X G d25 bi25 fun f fd F B m => ok_pick F T h_draw
  have h_lthing : Has P w K mg base CX0 3 "_law_thing" ["_law_script", "_law_town_here"] (spLThing K) := has_of X G d29 bi29 fun f fd F B m => ok_lthing F h_pick
  have h_lrow : Has P w K mg base CX0 5 "_law_row" ["_law_script", "_law_town_here", "_law_me", "_law_hands", "_law_wild", "_law_deep"] (spLR K 2) := has_of X G d30 bi30 fun f fd F B m => ok_lrow (d := 1) F T (by decide) h_draw h_pick h_lthing ⟨⟨f, fd, ok_lrow (d := 0) F T (by decide) h_draw h_pick h_lthing ⟨⟨f, fd, lr_none, B, m, F.kp⟩⟩, B, m, F.kp⟩⟩
  have h_lprog : Has P w K mg base CX0 8 "_law_program" ["_law_script", "_law_town_here", "_law_hands", "_law_most_rows", "_law_wild"] (spLP K) := has_of X G d31 bi31 fun f fd F B m => ok_lprog F T h_draw h_lrow h_prog
  have h_lword : Has P w K mg base CX0 1 "_law_word" ["_law_caught"] (spLW CB) := has_of X G d26 bi26 fun f fd F B m => ok_lword F T exs
  have h_ref : Has P w K mg base CX0 1 "_law_refused" ["_law_word_here"] spRef := has_of X G d27 bi27 fun f fd F B m => ok_refused F
  have h_one : Has P w K mg base (CX1 P w) 46 "_law_one" ["_law_way", "_law_some"] (spOne CB) := has_of X G d32 bi32 fun f fd F B m => ok_one F h_read h_ptext
  have h_told : Has P w K mg base CX0 47 "_law_told" ["_law_way", "_law_some"] (spTold CB) := has_of X G d28 bi28 fun f fd F B m => ok_told F exs h_one h_lword
  obtain ⟨g, gd, eg, FG⟩ := d34
  have mG := PySem.W.mg_of X G eg
  have BG := FG.binds bi34
  have h_lrows : Has P w K mg base CX0 85 "_law_rows" ["_law_rows_here"] (spRT 42) := has_of X G d33 bi33 fun f fd F B m => ok_lrows F B m FG BG mG T 42
  exact ok_law F T h_town h_draw h_pick h_lprog h_lrows h_ptext h_read h_prog h_told h_ref
theorem walk {l : PySem.W.OpenLaw} {q : Program} {loose : List Str} {XP : (Str → Option Value) → Heap → Prop} {YP : World → Heap → Prop} {d : DefRec} {K : Params → PySem.W.Frag} (hn : l.most = some 63) (hdf : d.params.defaults = [])
    (hY : ∀ (w : World) (h : Heap), YP w h → (K w.params).In h)
    (F : ∀ (w : World) (mg : Str → Option Value) (fa : Addr) (h : Heap), (K w.params).In h → h.Ns mainGlobals mg → mg d.name = some (.ref fa) →
      ∃ fd : FuncData, (∀ (s : Shared) (u : Value), BindsTo s fd ⟨[u], []⟩ [("_law_script", u)]) ∧ ∀ base : Heap, (K w.params).In base → base.Ns mainGlobals mg → FnOk l.prog w (K w.params) mg base CX0 86 fa fd ["_law_script"] (spLaw (K w.params))) :
    PySem.W.WalkO q loose XP YP l.row.toRowW d [] (fun f vs => PySem.call f vs) :=
  L2.walk_of (n := 63) (k := 86) (x := "_law_script") (CX := fun _ => CX0) (sp := fun w => spLaw (K w.params)) hn (by decide) hdf ⟨rfl, by decide, by decide⟩ hY F (fun _ _ a ns hl hO hS => ⟨a, ns, rfl, scr_of hO hS, hl, fun _ => rfl⟩) fun _ _ _ _ _ z => z
end
end W2

-- D20
set_option linter.all false
set_option Elab.async false
/-! names under which the head would lay equations that nothing asks for: taken here, so that the compiled text stays small -/
def PySem.W.Fast.tw17121833450281107697 : Nat := 0
def PySem.W.Fast.tw4592648899611398158 : Nat := 0
def PySem.W.Fast.tw17257952766504905992 : Nat := 0
def PySem.W.Fast.tw4150465317890328051 : Nat := 0
def PySem.W.Fast.tw12590172137063030026 : Nat := 0
def PySem.W.Fast.tw15984718249091208721 : Nat := 0
def PySem.W.Fast.tw13735368893337630959 : Nat := 0
def PySem.W.Fast.tw8541566724033065144 : Nat := 0
def PySem.W.Fast.tw16479431861737218995 : Nat := 0
def PySem.W.Fast.tw17869615508423233543 : Nat := 0
def PySem.W.Fast.tw10049831802784594307 : Nat := 0
def PySem.W.Fast.tw16304774585324435092 : Nat := 0
def PySem.W.Fast.tw1774638597228097261 : Nat := 0
def PySem.W.Fast.tw8697278450304895089 : Nat := 0
def PySem.W.Fast.tw210511855195947040 : Nat := 0
def PySem.W.Fast.tw14196735566227301523 : Nat := 0
def PySem.W.Fast.tw2388041264366980708 : Nat := 0
def PySem.W.Fast.tw256631491086646330 : Nat := 0
def PySem.W.Fast.tw4281665107023221995 : Nat := 0
def PySem.W.Fast.tw2712334266552808995 : Nat := 0
def PySem.W.Fast.tw10498632988397967856 : Nat := 0
def PySem.W.Fast.tw17032688913109692904 : Nat := 0
def PySem.W.Fast.tw8991154531609959840 : Nat := 0
def PySem.W.Fast.tw17734228892068084417 : Nat := 0
def PySem.W.Fast.tw10090757725429609750 : Nat := 0
def PySem.W.Fast.tw9058298778823262514 : Nat := 0
def PySem.W.Fast.tw5768380760010515670 : Nat := 0
def PySem.W.Fast.tw4446440720965280712 : Nat := 0
def PySem.W.Fast.tw16594489749579789885 : Nat := 0
def PySem.W.Fast.tw1942239373938593743 : Nat := 0
def PySem.W.Fast.tw15058968481896977258 : Nat := 0
def PySem.W.Fast.tw10658355432836212710 : Nat := 0
def PySem.W.Fast.tw1833033092050521597 : Nat := 0
def PySem.W.Fast.tw18084553295918073184 : Nat := 0
def PySem.W.Fast.tw1695759116934166415 : Nat := 0
def PySem.W.Fast.tw13183434410941607490 : Nat := 0
def PySem.W.Fast.tw14446423787917657390 : Nat := 0
def PySem.W.Fast.tw1250524299935581044 : Nat := 0
def PySem.W.Fast.tw1705569438063763347 : Nat := 0
def PySem.W.Fast.tw10256211914954955855 : Nat := 0
def PySem.W.Fast.tw1527732234941603837 : Nat := 0
def PySem.W.Fast.tw4433469797489210568 : Nat := 0
def PySem.W.Fast.tw6406749031301451317 : Nat := 0
def PySem.W.Fast.tw5656524066994012905 : Nat := 0
def PySem.W.Fast.tw13069652575232356341 : Nat := 0
def PySem.W.Fast.tw4941557688405044537 : Nat := 0
def PySem.W.Fast.tw6530952109165880722 : Nat := 0
def PySem.W.Fast.tw5600832868408509009 : Nat := 0
def PySem.W.Fast.tw2320450649382710544 : Nat := 0
def PySem.W.Fast.tw4623236638639073756 : Nat := 0
def PySem.W.Fast.tw8718218567649134412 : Nat := 0
def PySem.W.Fast.tw15970417749404751020 : Nat := 0
def PySem.W.Fast.tw18326750202776880137 : Nat := 0
def PySem.W.Fast.tw7064330884701050604 : Nat := 0
def PySem.W.Fast.tw6664268257980487700 : Nat := 0
def PySem.W.Fast.tw14594127326241713817 : Nat := 0
def PySem.W.Fast.tw13654880737453353616 : Nat := 0
def PySem.W.Fast.tw3756465152674797539 : Nat := 0
def PySem.W.Fast.tw2545934676289570811 : Nat := 0
def PySem.W.Fast.tw11891438648083350734 : Nat := 0
def PySem.W.Fast.tw14484897299396862825 : Nat := 0
def PySem.W.Fast.tw10892820659425349719 : Nat := 0
def PySem.W.Fast.tw11215780836602866424 : Nat := 0
def PySem.W.Fast.tw4580586967031614673 : Nat := 0
def PySem.W.Fast.tw2484605527334461473 : Nat := 0
def PySem.W.Fast.tw1575555344184030223 : Nat := 0
def PySem.W.Fast.tw4923532498210565578 : Nat := 0
def PySem.W.Fast.tw5881543457348327472 : Nat := 0
def PySem.W.Fast.tw15058244910726664651 : Nat := 0
def PySem.W.Fast.tw13434224727394308714 : Nat := 0
def PySem.W.Fast.tw16507746758586300855 : Nat := 0
def PySem.W.Fast.tw4294495290702602930 : Nat := 0
def PySem.W.Fast.tw2567934160280077205 : Nat := 0
def PySem.W.Fast.tw17203004199664171821 : Nat := 0
def PySem.W.Fast.tw1034755686597536021 : Nat := 0
def PySem.W.Fast.tw10144875635682492412 : Nat := 0
def PySem.W.Fast.tw1700132312585006734 : Nat := 0
def PySem.W.Fast.tw12623868951978308586 : Nat := 0
def PySem.W.Fast.tw12125341669813826926 : Nat := 0
def PySem.W.Fast.tw5284443666963994257 : Nat := 0
def PySem.W.Fast.tw11995208307351067941 : Nat := 0
def PySem.W.Fast.tw14386756268410983243 : Nat := 0
def PySem.W.Fast.tw285043447527356202 : Nat := 0
def PySem.W.Fast.tw15944538900540405796 : Nat := 0
def PySem.W.Fast.tw7117171010192024547 : Nat := 0
def PySem.W.Fast.tw11382636695498462687 : Nat := 0
def PySem.W.Fast.tw4834455415539112661 : Nat := 0
def PySem.W.Fast.tw1814703052772743050 : Nat := 0
def PySem.W.Fast.tw2821551182396070878 : Nat := 0
def PySem.W.Fast.tw13858455475021480521 : Nat := 0
def PySem.W.Fast.tw5873994725874463124 : Nat := 0
def PySem.W.Fast.tw2385264843592221457 : Nat := 0
def PySem.W.Fast.tw11002038598729714617 : Nat := 0
def PySem.W.Fast.tw6089851385632546278 : Nat := 0
def PySem.W.Fast.tw16267209522807372677 : Nat := 0
def PySem.W.Fast.tw14948668358056612834 : Nat := 0
def PySem.W.Fast.tw8990582452421437980 : Nat := 0
def PySem.W.Fast.tw9208086093571387075 : Nat := 0
def PySem.W.Fast.tw7252654748887821172 : Nat := 0
def PySem.W.Fast.tw14152910845977034060 : Nat := 0
def PySem.W.Fast.tw2832780369127835899 : Nat := 0
def PySem.W.Fast.tw14366455735368013882 : Nat := 0
def PySem.W.Fast.tw6070937567470316945 : Nat := 0
def PySem.W.Fast.tw14610350925471265716 : Nat := 0
def PySem.W.Fast.tw1862156064217580496 : Nat := 0
def PySem.W.Fast.tw16777863322048519592 : Nat := 0
def PySem.W.Fast.tw15184267464681027211 : Nat := 0
def PySem.W.Fast.tw4824329379402444602 : Nat := 0
def PySem.W.Fast.tw13481978717273116406 : Nat := 0
def PySem.W.Fast.tw16842287867881960297 : Nat := 0
def PySem.W.Fast.tw18111133168075069745 : Nat := 0
def PySem.W.Fast.tw6706645075479611658 : Nat := 0
def PySem.W.Fast.tw18359624228712371675 : Nat := 0
def PySem.W.Fast.tw10894316843330654494 : Nat := 0
def PySem.W.Fast.tw7602155613035231557 : Nat := 0
def PySem.W.Fast.tw8012706493425565660 : Nat := 0
def PySem.W.Fast.tw8715006348310424664 : Nat := 0
def PySem.W.Fast.tw16607129406498072793 : Nat := 0
def PySem.W.Fast.tw7233096814179422236 : Nat := 0
def PySem.W.Fast.tw6761859284474272364 : Nat := 0
def PySem.W.Fast.tw10578577934433388886 : Nat := 0
def PySem.W.Fast.tw14043585348413852757 : Nat := 0
def PySem.W.Fast.tw16822869733073637282 : Nat := 0
def PySem.W.Fast.tw16071950033059536610 : Nat := 0
def PySem.W.Fast.tw12346044598478536521 : Nat := 0
def PySem.W.Fast.tw10830251747332397717 : Nat := 0
def PySem.W.Fast.tw17569843185845161566 : Nat := 0
def PySem.W.Fast.tw15487384840607796913 : Nat := 0
def PySem.W.Fast.tw4059589251979254836 : Nat := 0
def PySem.W.Fast.tw13379198071383739932 : Nat := 0
def PySem.W.Fast.tw12927187414167540995 : Nat := 0
def PySem.W.Fast.tw13966328807915820836 : Nat := 0
def PySem.W.Fast.tw10819977686309877413 : Nat := 0
def PySem.W.Fast.tw4077138856092096411 : Nat := 0
def PySem.W.Fast.tw17766963565846925353 : Nat := 0
def PySem.W.Fast.tw16582648882996878741 : Nat := 0
def PySem.W.Fast.tw650058926632084912 : Nat := 0
def PySem.W.Fast.tw17463683436675567107 : Nat := 0
def PySem.W.Fast.tw14492687894524442231 : Nat := 0
def PySem.W.Fast.tw14030711938416073983 : Nat := 0
def PySem.W.Fast.tw6064396250877010023 : Nat := 0
def PySem.W.Fast.tw1466052632805597235 : Nat := 0
def PySem.W.Fast.tw14799526744923213907 : Nat := 0
def PySem.W.Fast.tw1142650782758018466 : Nat := 0
def PySem.W.Fast.tw7807765782398951923 : Nat := 0
def PySem.W.Fast.tw15541939647964050738 : Nat := 0
def PySem.W.Fast.tw9864385269052806723 : Nat := 0
def PySem.W.Fast.tw4356349335902227006 : Nat := 0
def PySem.W.Fast.tw4037006430396455672 : Nat := 0
def PySem.W.Fast.tw930786871511592421 : Nat := 0
def PySem.W.Fast.tw11225468844086228437 : Nat := 0
def PySem.W.Fast.tw6097206754935953605 : Nat := 0
def PySem.W.Fast.tw4633629518772272323 : Nat := 0
open PySem PySem.W PyProof.Rows
set_option maxRecDepth 100000 in
set_option maxHeartbeats 0 in
theorem PySem.Challenge.cw_wildtakes_k02_whole_texts_holds : PySem.Challenge.rw_wildtakes_k02_whole_texts.Holds := by
  w_on; o_law; k_head; (case hw => w_witness2)
  k_fill
  refine W2.walk (l := PySem.Challenge.rw_wildtakes_k02_whole_texts) rfl rfl (fun w h Y => PySem.W.kIn_of Y) ?F
  case F =>
    intro w mg fa h KX G hmg
    have d0 : W2.DefAt (L2.KOf KX) "is_whole" W2.sWhole := by
      dsimp only [L2.KOf]
      refine' W2.defAt_mk ?a ?l ?c ?k
      (case a => k_is); (case l => k_is); (case c => k_is); (case k => k_is)
    have d1 : W2.DefAt (L2.KOf KX) "is_mark" W2.sMark := by
      dsimp only [L2.KOf]
      refine' W2.defAt_mk ?a ?l ?c ?k
      (case a => k_is); (case l => k_is); (case c => k_is); (case k => k_is)
    have d2 : W2.DefAt (L2.KOf KX) "is_number" W2.sNumber := by
      dsimp only [L2.KOf]
      refine' W2.defAt_mk ?a ?l ?c ?k
      (case a => k_is); (case l => k_is); (case c => k_is); (case k => k_is)
    have d3 : W2.DefAt (L2.KOf KX) "is_box" W2.sBox := by
      dsimp only [L2.KOf]
      refine' W2.defAt_mk ?a ?l ?c ?k
      (case a => k_is); (case l => k_is); (case c => k_is); (case k => k_is)
    have d4 : W2.DefAt (L2.KOf KX) "is_thing" W2.sThing := by
      dsimp only [L2.KOf]
      refine' W2.defAt_mk ?a ?l ?c ?k
      (case a => k_is); (case l => k_is); (case c => k_is); (case k => k_is)
    have d5 : W2.DefAt (L2.KOf KX) "is_rows" W2.sRows := by
      dsimp only [L2.KOf]
      refine' W2.defAt_mk ?a ?l ?c ?k
      (case a => k_is); (case l => k_is); (case c => k_is); (case k => k_is)
    have d6 : W2.DefAt (L2.KOf KX) "may_be_any" W2.sAny := by
      dsimp only [L2.KOf]
      refine' W2.defAt_mk ?a ?l ?c ?k
      (case a => k_is); (case l => k_is); (case c => k_is); (case k => k_is)
    have d7 : W2.DefAt (L2.KOf KX) "fits_place" W2.sFits := by
      dsimp only [L2.KOf]
      refine' W2.defAt_mk ?a ?l ?c ?k
      (case a => k_is); (case l => k_is); (case c => k_is); (case k => k_is)
    have d8 : W2.DefAt (L2.KOf KX) "is_row" W2.sRow := by
      dsimp only [L2.KOf]
      refine' W2.defAt_mk ?a ?l ?c ?k
      (case a => k_is); (case l => k_is); (case c => k_is); (case k => k_is)
    have d9 : W2.DefAt (L2.KOf KX) "rows_within" W2.sWithin := by
      dsimp only [L2.KOf]
      refine' W2.defAt_mk ?a ?l ?c ?k
      (case a => k_is); (case l => k_is); (case c => k_is); (case k => k_is)
    have d10 : W2.DefAt (L2.KOf KX) "count_rows" W2.sCount := by
      dsimp only [L2.KOf]
      refine' W2.defAt_mk ?a ?l ?c ?k
      (case a => k_is); (case l => k_is); (case c => k_is); (case k => k_is)
    have d11 : W2.DefAt (L2.KOf KX) "is_program" W2.sProgram := by
      dsimp only [L2.KOf]
      refine' W2.defAt_mk ?a ?l ?c ?k
      (case a => k_is); (case l => k_is); (case c => k_is); (case k => k_is)
    have d12 : W2.DefAt (L2.KOf KX) "check_program" W2.sCheck := by
      dsimp only [L2.KOf]
      refine' W2.defAt_mk ?a ?l ?c ?k
      (case a => k_is); (case l => k_is); (case c => k_is); (case k => k_is)
    have d13 : W2.DefAt (L2.KOf KX) "word_text" W2.sWord := by
      dsimp only [L2.KOf]
      refine' W2.defAt_mk ?a ?l ?c ?k
      (case a => k_is); (case l => k_is); (case c => k_is); (case k => k_is)
    have d14 : W2.DefAt (L2.KOf KX) "rows_text" W2.sRText := by
      dsimp only [L2.KOf]
      refine' W2.defAt_mk ?a ?l ?c ?k
      (case a => k_is); (case l => k_is); (case c => k_is); (case k => k_is)
    have d15 : W2.DefAt (L2.KOf KX) "program_text" W2.sPText := by
      dsimp only [L2.KOf]
      refine' W2.defAt_mk ?a ?l ?c ?k
      (case a => k_is); (case l => k_is); (case c => k_is); (case k => k_is)
    have d16 : W2.DefAt (L2.KOf KX) "is_number_text" W2.sNText := by
      dsimp only [L2.KOf]
      refine' W2.defAt_mk ?a ?l ?c ?k
      (case a => k_is); (case l => k_is); (case c => k_is); (case k => k_is)
    have d17 : W2.DefAt (L2.KOf KX) "next_kind" W2.sNext := by
      dsimp only [L2.KOf]
      refine' W2.defAt_mk ?a ?l ?c ?k
      (case a => k_is); (case l => k_is); (case c => k_is); (case k => k_is)
    have d18 : W2.DefAt (L2.KOf KX) "read_word" W2.sRWord := by
      dsimp only [L2.KOf]
      refine' W2.defAt_mk ?a ?l ?c ?k
      (case a => k_is); (case l => k_is); (case c => k_is); (case k => k_is)
    have d19 : W2.DefAt (L2.KOf KX) "split_words" W2.sSplit := by
      dsimp only [L2.KOf]
      refine' W2.defAt_mk ?a ?l ?c ?k
      (case a => k_is); (case l => k_is); (case c => k_is); (case k => k_is)
    have d20 : W2.DefAt (L2.KOf KX) "with_last" W2.sWith := by
      dsimp only [L2.KOf]
      refine' W2.defAt_mk ?a ?l ?c ?k
      (case a => k_is); (case l => k_is); (case c => k_is); (case k => k_is)
    have d21 : W2.DefAt (L2.KOf KX) "read_line" W2.sLine := by
      dsimp only [L2.KOf]
      refine' W2.defAt_mk ?a ?l ?c ?k
      (case a => k_is); (case l => k_is); (case c => k_is); (case k => k_is)
    have d22 : W2.DefAt (L2.KOf KX) "read_program" W2.sRead := by
      dsimp only [L2.KOf]
      refine' W2.defAt_mk ?a ?l ?c ?k
      (case a => k_is); (case l => k_is); (case c => k_is); (case k => k_is)
    have d23 : W2.DefAt (L2.KOf KX) "_law_town" W2.sTown := by
      dsimp only [L2.KOf]
      refine' W2.defAt_mk ?a ?l ?c ?k
      (case a => k_is); (case l => k_is); (case c => k_is); (case k => k_is)
    have d24 : W2.DefAt (L2.KOf KX) "_law_draw" W2.sDraw := by
      dsimp only [L2.KOf]
      refine' W2.defAt_mk ?a ?l ?c ?k
      (case a => k_is); (case l => k_is); (case c => k_is); (case k => k_is)
    have d25 : W2.DefAt (L2.KOf KX) "_law_pick" W2.sPick := by
      dsimp only [L2.KOf]
      refine' W2.defAt_mk ?a ?l ?c ?k
      (case a => k_is); (case l => k_is); (case c => k_is); (case k => k_is)
    have d26 : W2.DefAt (L2.KOf KX) "_law_word" W2.sLWord := by
      dsimp only [L2.KOf]
      refine' W2.defAt_mk ?a ?l ?c ?k
      (case a => k_is); (case l => k_is); (case c => k_is); (case k => k_is)
    have d27 : W2.DefAt (L2.KOf KX) "_law_refused" W2.sRefused := by
      dsimp only [L2.KOf]
      refine' W2.defAt_mk ?a ?l ?c ?k
      (case a => k_is); (case l => k_is); (case c => k_is); (case k => k_is)
    have d28 : W2.DefAt (L2.KOf KX) "_law_told" W2.sTold := by
      dsimp only [L2.KOf]
      refine' W2.defAt_mk ?a ?l ?c ?k
      (case a => k_is); (case l => k_is); (case c => k_is); (case k => k_is)
    have d29 : W2.DefAt (L2.KOf KX) "_law_thing" W2.sLThing := by
      dsimp only [L2.KOf]
      refine' W2.defAt_mk ?a ?l ?c ?k
      (case a => k_is); (case l => k_is); (case c => k_is); (case k => k_is)
    have d30 : W2.DefAt (L2.KOf KX) "_law_row" W2.sLRow := by
      dsimp only [L2.KOf]
      refine' W2.defAt_mk ?a ?l ?c ?k
      (case a => k_is); (case l => k_is); (case c => k_is); (case k => k_is)
    have d31 : W2.DefAt (L2.KOf KX) "_law_program" W2.sLProgram := by
      dsimp only [L2.KOf]
      refine' W2.defAt_mk ?a ?l ?c ?k
      (case a => k_is); (case l => k_is); (case c => k_is); (case k => k_is)
    have d32 : W2.DefAt (L2.KOf KX) "_law_one" W2.sOne := by
      dsimp only [L2.KOf]
      refine' W2.defAt_mk ?a ?l ?c ?k
      (case a => k_is); (case l => k_is); (case c => k_is); (case k => k_is)
    have d33 : W2.DefAt (L2.KOf KX) "_law_rows" W2.sLRows := by
      dsimp only [L2.KOf]
      refine' W2.defAt_mk ?a ?l ?c ?k
      (case a => k_is); (case l => k_is); (case c => k_is); (case k => k_is)
    have d34 : W2.DefAt (L2.KOf KX) "_law_part" W2.sPart := by
      dsimp only [L2.KOf]
      refine' W2.defAt_mk ?a ?l ?c ?k
      (case a => k_is); (case l => k_is); (case c => k_is); (case k => k_is)
    have d35 : W2.DefAt (L2.KOf KX) "law" W2.sLaw := by
      dsimp only [L2.KOf]
      refine' W2.defAt_mk ?a ?l ?c ?k
      (case a => k_is); (case l => k_is); (case c => k_is); (case k => k_is)
    have nn : W2.NamesAt (L2.KOf KX) := by
      dsimp only [L2.KOf]
      refine' W2.names_mk ?z0 ?z1 ?z2 ?z3 ?z4 ?z5 ?z6 ?z7 ?z8 ?z9 ?z10 ?z11 ?c0 ?c1 ?c2 ?c3 ?c4 ?c5 ?c6 ?c7 ?c8
      (case z0 => k_is); (case z1 => k_is); (case z2 => k_is); (case z3 => k_is); (case z4 => k_is); (case z5 => k_is); (case z6 => k_is); (case z7 => k_is); (case z8 => k_is); (case z9 => k_is); (case z10 => k_is); (case z11 => k_is)
      (case c0 => k_is); (case c1 => k_is); (case c2 => k_is); (case c3 => k_is); (case c4 => k_is); (case c5 => k_is); (case c6 => k_is); (case c7 => k_is); (case c8 => k_is)
    have fo : W2.FormsAt w (L2.KOf KX) := by
      dsimp only [L2.KOf]
      refine' W2.forms_mk ?a ?l ?s ?e (W2.kTup_mk ?t1 ?z1 ?v1) (W2.kTup_mk ?t2 ?z2 ?v2) (W2.kTup_mk ?t3 ?z3 ?v3) (W2.kTup_mk ?t4 ?z4 ?v4) (W2.kTup_mk ?t5 ?z5 ?v5) (W2.kTup_mk ?t6 ?z6 ?v6) (W2.kTup_mk ?t7 ?z7 ?v7) (W2.kTup_mk ?t8 ?z8 ?v8)
      (case a => k_is); (case l => k_is); (case s => decide)
      (case e => exact (.cons rfl (.cons rfl (.cons rfl (.cons rfl (.cons rfl (.cons rfl (.cons rfl (.cons rfl .nil)))))))))
      (case t1 => k_is); (case z1 => decide); (case v1 => exact (.cons ⟨_, rfl⟩ (.cons ⟨_, rfl⟩ (.cons ⟨_, rfl⟩ .nil))))
      (case t2 => k_is); (case z2 => decide); (case v2 => exact (.cons ⟨_, rfl⟩ (.cons ⟨_, rfl⟩ (.cons ⟨_, rfl⟩ .nil))))
      (case t3 => k_is); (case z3 => decide); (case v3 => exact (.cons ⟨_, rfl⟩ (.cons ⟨_, rfl⟩ (.cons ⟨_, rfl⟩ (.cons ⟨_, rfl⟩ .nil)))))
      (case t4 => k_is); (case z4 => decide); (case v4 => exact (.cons ⟨_, rfl⟩ .nil))
      (case t5 => k_is); (case z5 => decide); (case v5 => exact (.cons ⟨_, rfl⟩ .nil))
      (case t6 => k_is); (case z6 => decide); (case v6 => exact (.cons ⟨_, rfl⟩ (.cons ⟨_, rfl⟩ (.cons ⟨_, rfl⟩ .nil))))
      (case t7 => k_is); (case z7 => decide); (case v7 => exact (.cons ⟨_, rfl⟩ (.cons ⟨_, rfl⟩ (.cons ⟨_, rfl⟩ (.cons ⟨_, rfl⟩ .nil)))))
      (case t8 => k_is); (case z8 => decide); (case v8 => exact .nil)
    have ck : W2.ChecksAt w (L2.KOf KX) := by
      dsimp only [L2.KOf]
      refine' W2.checks_mk ?a ?l ?s ?e ?f1 ?f2 ?f3 ?f4 ?f5
      (case a => k_is); (case l => k_is); (case s => decide)
      (case e => exact (.cons rfl (.cons rfl (.cons rfl (.cons rfl (.cons rfl (.cons rfl .nil)))))))
      (case f1 => k_is); (case f2 => k_is); (case f3 => k_is); (case f4 => k_is); (case f5 => k_is)
    have te : W2.TextErr (L2.KOf KX) := by
      dsimp only [L2.KOf]
      refine' W2.textErr_mk ?a ?x1 ?x2 ?x3 ?x4 ?x5 ?x6 ?x7 ?x8 ?e ?s (W2.noKin_mk ?n0a ?n0b ?n0c ?n0d ?n0e) (W2.noKin_mk ?n1a ?n1b ?n1c ?n1d ?n1e) (W2.noKin_mk ?n2a ?n2b ?n2c ?n2d ?n2e) (W2.noKin_mk ?n3a ?n3b ?n3c ?n3d ?n3e) (W2.noKin_mk ?n4a ?n4b ?n4c ?n4d ?n4e) (W2.noKin_mk ?n5a ?n5b ?n5c ?n5d ?n5e) (W2.noKin_mk ?n6a ?n6b ?n6c ?n6d ?n6e) (W2.noKin_mk ?n7a ?n7b ?n7c ?n7d ?n7e) ?b (W2.exm_yes ?y1 ?y2 ?y3 ?y4)
      (case a => k_is); (case x1 => k_is); (case x2 => k_is); (case x3 => k_is); (case x4 => k_is); (case x5 => k_is); (case x6 => k_is); (case x7 => k_is); (case x8 => k_is)
      (case e => k_exc); (case s => k_is)
      (case n0a => k_is); (case n0b => exact rfl); (case n0c => k_is); (case n0d => k_is); (case n0e => k_is)
      (case n1a => k_is); (case n1b => exact rfl); (case n1c => k_is); (case n1d => k_is); (case n1e => k_is)
      (case n2a => k_is); (case n2b => exact rfl); (case n2c => k_is); (case n2d => k_is); (case n2e => k_is)
      (case n3a => k_is); (case n3b => exact rfl); (case n3c => k_is); (case n3d => k_is); (case n3e => k_is)
      (case n4a => k_is); (case n4b => exact rfl); (case n4c => k_is); (case n4d => k_is); (case n4e => k_is)
      (case n5a => k_is); (case n5b => exact rfl); (case n5c => k_is); (case n5d => k_is); (case n5e => k_is)
      (case n6a => k_is); (case n6b => exact rfl); (case n6c => k_is); (case n6d => k_is); (case n6e => k_is)
      (case n7a => k_is); (case n7b => exact rfl); (case n7c => k_is); (case n7d => k_is); (case n7e => k_is)
      (case b => k_is); (case y1 => k_is); (case y2 => k_is); (case y3 => k_is); (case y4 => k_is)
    exact W2.law_ok KX G hmg nn fo ck te d0 d1 d2 d3 d4 d5 d6 d7 d8 d9 d10 d11 d12 d13 d14 d15 d16 d17 d18 d19 d20 d21 d22 d23 d24 d25 d26 d27 d28 d29 d30 d31 d32 d33 d34 d35
#print axioms PySem.Challenge.cw_wildtakes_k02_whole_texts_holds
