import PyProof.Rows.All
import Wide.All
import OpenK.AllK
import Wide.FinOn
import Lean
import PyProof.EqAt
import PyProof.EqKinds
import PyProof.TupleCall
import PyProof.NeKinds
import PyProof.StrLawsIn
import PySem.Challenge.RW_webstore_k14_what_ways_are
-- CHANGE: your row's module here, as the last of these rows
set_option Elab.async false
set_option linter.all false
set_option maxRecDepth 100000
/-! THE HAND LAYER, for ints, bools, texts, own classes, LISTS and tuples (index, slices, in, append, pop ..), calls, loops. Paste it whole ahead of your own text; what your proof does not reach may be deleted. -/
namespace L2
open PySem PySem.Spec PyProof.Rows

/-- a key: an int or a str -/
abbrev Key := Sum Int Str
def keyIs : Key → Value → Bool
  | .inl k, v => Value.isInt k v
  | .inr x, v => Value.isStrOf x v
def keyH (w : World) : Key → Int
  | .inl k => hashInt k
  | .inr x => hashStr w x
theorem keyIs_shape : ∀ {k : Key} {v : Value}, keyIs k v = true → (∃ i t, k = Sum.inl i ∧ v = Value.int i t) ∨ (∃ x t, k = Sum.inr x ∧ v = Value.str x t)
  | .inl i, v, h => by
    obtain ⟨t, e⟩ := Value.isInt_shape (k := i) (v := v) h
    exact .inl ⟨i, t, rfl, e⟩
  | .inr x, v, h => by
    obtain ⟨t, e⟩ := Value.isStrOf_shape (x := x) (v := v) h
    exact .inr ⟨x, t, rfl, e⟩
theorem keyIs_int (i : Int) (t : Tok) : keyIs (.inl i) (.int i t) = true := by simp [keyIs, Value.isInt]
theorem keyIs_str (x : Str) (t : Tok) : keyIs (.inr x) (.str x t) = true := by simp [keyIs, Value.isStrOf]
theorem key_ll (a b : Int) : decide ((Sum.inl a : Key) = Sum.inl b) = (a == b) := by
  by_cases e : a = b
  · subst e; simp
  · have h : ¬ (Sum.inl a : Key) = Sum.inl b := fun q => e (Sum.inl.inj q)
    rw [decide_eq_false h]
    exact (beq_eq_false_iff_ne.mpr e).symm
theorem key_rr (a b : Str) : decide ((Sum.inr a : Key) = Sum.inr b) = decide (a = b) := by
  by_cases e : a = b
  · subst e; simp
  · have h : ¬ (Sum.inr a : Key) = Sum.inr b := fun q => e (Sum.inr.inj q)
    rw [decide_eq_false h, decide_eq_false e]
theorem key_lr (a : Int) (b : Str) : decide ((Sum.inl a : Key) = Sum.inr b) = false := decide_eq_false (fun q => nomatch q)
theorem key_rl (a : Str) (b : Int) : decide ((Sum.inr a : Key) = Sum.inl b) = false := decide_eq_false (fun q => nomatch q)

def mixKind (prog : Program) (w : World) : PySem.KeyKind prog w Key where
  is := keyIs
  hash := keyH w
  inj := fun v a b ha hb => by
    rcases keyIs_shape ha with ⟨i, t, rfl, rfl⟩ | ⟨x, t, rfl, rfl⟩
    · rcases keyIs_shape hb with ⟨j, u, rfl, e⟩ | ⟨y, u, rfl, e⟩
      · injection e with e1 _; rw [e1]
      · exact nomatch e
    · rcases keyIs_shape hb with ⟨j, u, rfl, e⟩ | ⟨y, u, rfl, e⟩
      · exact nomatch e
      · injection e with e1 _; rw [e1]
  byValue := fun k v h => by
    rcases keyIs_shape h with ⟨i, t, rfl, rfl⟩ | ⟨x, t, rfl, rfl⟩ <;> rfl
  pyHash := fun hv h => by
    rcases keyIs_shape hv with ⟨i, t, rfl, rfl⟩ | ⟨x, t, rfl, rfl⟩
    · exact wpAny_pyHash_int h
    · exact wpAny_pyHash_str h
  eqBool := fun hu hv h => by
    rcases keyIs_shape hu with ⟨i, t, rfl, rfl⟩ | ⟨x, t, rfl, rfl⟩
    · rcases keyIs_shape hv with ⟨j, u, rfl, rfl⟩ | ⟨y, u, rfl, rfl⟩
      · rw [key_ll] at h; exact wpAny_eqBool_int h
      · rw [key_lr] at h; exact SeqAt.EqAt.int_str i t y u _ _ _ _ h
    · rcases keyIs_shape hv with ⟨j, u, rfl, rfl⟩ | ⟨y, u, rfl, rfl⟩
      · rw [key_rl] at h; exact SeqAt.EqAt.str_int x t j u _ _ _ _ h
      · rw [key_rr] at h; exact wpAny_eqBool_str h
  «strs» := fun k x t v h => by
    rcases keyIs_shape h with ⟨i, u, rfl, e⟩ | ⟨y, u, rfl, e⟩
    · exact nomatch e
    · injection e with e1 _
      subst e1
      cases v <;> rfl

theorem mixKind_is (prog : Program) (w : World) (k : Key) (v : Value) : (mixKind prog w).is k v = keyIs k v := rfl
theorem mixKind_int (prog : Program) (w : World) (i : Int) (t : Tok) : (mixKind prog w).is (.inl i) (.int i t) = true := keyIs_int i t
theorem mixKind_str (prog : Program) (w : World) (x : Str) (t : Tok) : (mixKind prog w).is (.inr x) (.str x t) = true := keyIs_str x t
end L2

namespace L2
open PySem PySem.Spec PyProof.Rows

/-- a value, without the heap -/
inductive V where
  | non | bl (b : Bool) | int (i : Int) | str (x : Str) | byt (b : Array UInt8) | flt (b : UInt64) | ref (a : Addr) | ty (n : String)
  deriving DecidableEq

def RelV : V → Value → Prop
  | .non, u => u = Value.none
  | .bl b, u => u = Value.bool b
  | .int i, u => ∃ t, u = Value.int i t
  | .str x, u => ∃ t, u = Value.str x t
  | .byt b, u => ∃ t, u = Value.bytes b t
  | .flt b, u => ∃ t, u = Value.float b t
  | .ref a, u => u = Value.ref a
  | .ty n, u => u = Value.type n

abbrev Vals : List V → List Value → Prop := Paired RelV
theorem Vals.length {xs : List V} {us : List Value} (r : Vals xs us) : xs.length = us.length := Paired.length r
theorem Vals.get : ∀ {xs : List V} {us : List Value} {i : Nat} {x : V}, Vals xs us → xs[i]? = some x → ∃ u, us[i]? = some u ∧ RelV x u
  | _, _, _, _, .nil, e => by simp at e
  | _, _, 0, _, .cons r _, e => by simp at e; subst e; exact ⟨_, rfl, r⟩
  | _, _, i + 1, x, .cons _ t, e => by
    obtain ⟨u, h1, h2⟩ := Vals.get (i := i) (x := x) t (by simpa using e)
    exact ⟨u, by simpa using h1, h2⟩
theorem Vals.set {x : V} {u : Value} (r : RelV x u) : ∀ {xs : List V} {us : List Value} (i : Nat), Vals xs us → Vals (xs.set i x) (us.set i u)
  | _, _, _, .nil => .nil
  | _, _, 0, .cons _ t => .cons r t
  | _, _, i + 1, .cons q t => .cons q (Vals.set r i t)
theorem Vals.append : ∀ {xs ys : List V} {us ws : List Value}, Vals xs us → Vals ys ws → Vals (xs ++ ys) (us ++ ws)
  | _, _, _, _, .nil, s => s
  | _, _, _, _, .cons r t, s => .cons r (Vals.append t s)
theorem Vals.take : ∀ {xs : List V} {us : List Value} (n : Nat), Vals xs us → Vals (xs.take n) (us.take n)
  | _, _, 0, _ => .nil
  | _, _, _ + 1, .nil => .nil
  | _, _, n + 1, .cons r t => .cons r (Vals.take n t)
theorem Vals.drop : ∀ {xs : List V} {us : List Value} (n : Nat), Vals xs us → Vals (xs.drop n) (us.drop n)
  | _, _, 0, r => r
  | _, _, _ + 1, .nil => .nil
  | _, _, n + 1, .cons _ t => Vals.drop n t
theorem Vals.none_of : ∀ {xs : List V} {us : List Value} {i : Nat}, Vals xs us → xs[i]? = none → us[i]? = none := fun {xs us i} r e => by
  have h1 := r.length
  have h2 : xs.length ≤ i := List.getElem?_eq_none_iff.mp e
  exact List.getElem?_eq_none_iff.mpr (by omega)

def RelO : Option V → Option Value → Prop
  | some v, some u => RelV v u
  | none, none => True
  | _, _ => False
def KV {κ : Type} : List (κ × V) → List (κ × Value) → Prop := Paired fun (p : κ × V) (q : κ × Value) => p.1 = q.1 ∧ RelV p.2 q.2

/-- a key of a dict (00_mix): an int or a text -/
def kV : Key → V
  | .inl i => .int i
  | .inr x => .str x

/-- what stands at a tracked address -/
inductive HO where
  /-- a list -/
  | lst (xs : List V)
  /-- a tuple (never changes) -/
  | tup (xs : List V)
  /-- a dict whose keys are ints and texts; one whose keys are tuples of ints and texts (the empty one is both) -/
  | dK (kvs : List (Key × V)) | dT (kvs : List (List Key × V))
  /-- a set of ints: its members, its size -/
  | set (S : Int → Bool) (n : Nat)
  /-- an instance of the class at C, its dict at dx, its attributes -/
  | ins (C dx : Addr) (fs : List (Str × V))
  /-- the dict of the instance at x -/
  | own (x : Addr)
  /-- the dict of an exception -/
  | xd (fs : List (Str × V))
  /-- a bound method, f of x -/
  | met (f x : Addr)
  /-- a range object lo, lo + 1, .. below hi -/
  | rng (lo hi : Int)
  /-- a thing that is known to the object (the script; a dict while a loop walks it): read, never written while it is so -/
  | frz (o : Obj) (u : HO)
  /-- a code object's table -/
  | tbl (ps : Array Value)
  /-- any other thing, by what is true of its one object (a def of one's own: SetO a S n := HO.ext fun h => ..) -/
  | ext (φ : Heap → Prop)

abbrev Hp := Addr → Option HO
def upd (H : Hp) (a : Addr) (o : HO) : Hp := fun b => if b = a then some o else H b
theorem upd_same {H : Hp} {a : Addr} {o : HO} : upd H a o a = some o := by unfold upd; rw [if_pos rfl]
theorem upd_ne {H : Hp} {a b : Addr} {o : HO} (h : b ≠ a) : upd H a o b = H b := by unfold upd; rw [if_neg h]
theorem upd_upd {H : Hp} {a : Addr} {o u : HO} : upd (upd H a o) a u = upd H a u := by
  funext b; unfold upd; split <;> rfl
/-- two objects of different content stand apart -/
theorem ne_of {H : Hp} {a b : Addr} {o u : HO} (h : H a = some o) (h' : H b = some u) (d : o ≠ u) : a ≠ b := by
  intro e; subst e; rw [h] at h'; exact d (Option.some.inj h')
theorem ne_of_none {H : Hp} {a b : Addr} {o : HO} (h : H a = some o) (h' : H b = none) : a ≠ b := by
  intro e; subst e; rw [h] at h'; cases h'

section
variable (P : Program) (w : World)
def ObjOk (H : Hp) (h : Heap) (a : Addr) : HO → Prop
  | .lst xs => xs.length ≤ sizeLine ∧ ∃ (its : List Value) (n : Nat), Vals xs its ∧ h.get? a = some { cls := .type "list", data := .seq its.toArray n }
  | .tup xs => xs.length ≤ sizeLine ∧ ∃ its : List Value, Vals xs its ∧ IsTup h a its.toArray
  | .dK kvs => kvs.length ≤ sizeLine ∧ (a == sysModules) = false ∧ ∃ vs, KV kvs vs ∧ h.DictOf (mixKind P w) a vs
  | .dT kvs => kvs.length ≤ sizeLine ∧ (a == sysModules) = false ∧ ∃ xs : List (List Key × Addr × Value),
      Paired (fun (p : List Key × V) (q : List Key × Addr × Value) => p.1 = q.1 ∧ H q.2.1 = some (.tup (p.1.map kV)) ∧ RelV p.2 q.2.2) kvs xs ∧
      ∃ o es ep, h.get? a = some o ∧ o.ExactDict ∧ o.data = .dict es ep ∧ es.toList = xs.map (entryOfKey (tupleKind (mixKind P w))) ∧ (xs.map (·.1)).Nodup
  | .set S n => h.SetOf (intKind P w) a S n
  | .ins C dx fs => H dx = some (.own a) ∧ fs.length ≤ 1000 ∧ dx ≠ a ∧ h.get? a = some (PySem.W.instObj C dx) ∧
      ∃ mA, h.Ns1 dx mA ∧ (∀ f, RelO (fs.lookup f) (mA f)) ∧ PySem.Within mA (fs.map (·.1))
  | .own _ => ∃ o, h.get? a = some o
  | .xd fs => ∃ mA, h.Ns1 a mA ∧ ∀ f, RelO (fs.lookup f) (mA f)
  | .rng lo hi => ∃ t u v, h.get? a = some { cls := .type "range", data := .fields #[.int lo t, .int hi u, .int 1 v] }
  | .frz o u => h.get? a = some o ∧ ObjOk H h a u
  | .tbl ps => h.get? a = some { cls := .none, data := .fields ps }
  | .met f x => h.get? a = some (PySem.W.methodObj (.ref f) (.ref x))
  | .ext φ => φ h ∧ (∃ o, h.get? a = some o) ∧ ∀ h1 h2 : Heap, φ h1 → (∀ o, h1.get? a = some o → h2.get? a = some o) → φ h2
/-- the abstract heap is held -/
def HOk (H : Hp) (h : Heap) : Prop := ∀ a o, H a = some o → ObjOk P w H h a o
end

section
variable {P : Program} {w : World} {H H' : Hp} {h h' : Heap} {a : Addr} {o : HO}
theorem ObjOk.lt (x : ObjOk P w H h a o) : a < h.objs.size := by
  cases o with
  | lst xs => obtain ⟨_, _, _, _, e⟩ := x; exact Heap.lt_size e
  | tup xs => obtain ⟨_, _, _, p⟩ := x; exact p.lt
  | dK kvs => obtain ⟨_, _, _, _, o, _, _, e, _⟩ := x; exact Heap.lt_size e
  | dT kvs => obtain ⟨_, _, _, _, o, _, _, e, _⟩ := x; exact Heap.lt_size e
  | set S n => obtain ⟨o, _, _, _, e, _⟩ := x; exact Heap.lt_size e
  | ins C dx fs => obtain ⟨_, _, _, e, _⟩ := x; exact Heap.lt_size e
  | own y => obtain ⟨_, e⟩ := x; exact Heap.lt_size e
  | xd fs => obtain ⟨_, ⟨_, _, _, e, _⟩, _⟩ := x; exact Heap.lt_size e
  | rng lo hi => obtain ⟨_, _, _, e⟩ := x; exact Heap.lt_size e
  | frz ob u => obtain ⟨e, _⟩ := x; exact Heap.lt_size e
  | tbl ps => exact Heap.lt_size (show h.get? a = some _ from x)
  | met f y => exact Heap.lt_size (show h.get? a = some _ from x)
  | ext φ => obtain ⟨_, ⟨_, e⟩, _⟩ := x; exact Heap.lt_size e
theorem Paired.mapP {α β : Type} {F G : α → β → Prop} : ∀ {l₁ : List α} {l₂ : List β}, Paired F l₁ l₂ → (∀ a b, F a b → G a b) → Paired G l₁ l₂
  | _, _, .nil, _ => .nil
  | _, _, .cons r t, f => .cons (f _ _ r) (Paired.mapP t f)
theorem Paired.imp' {α β : Type} {F G : α → β → Prop} (f : ∀ a b, F a b → G a b) {l₁ : List α} {l₂ : List β} (r : Paired F l₁ l₂) : Paired G l₁ l₂ := Paired.mapP r f
/-- what an object's description leans on: its own object, its own dict, the tuples -/
theorem ObjOk.stay (x : ObjOk P w H h a o) (k : ∀ b u, (b = a ∨ H b = some (.own a)) → h.get? b = some u → h'.get? b = some u)
    (ho : ∀ b, H b = some (.own a) → H' b = some (.own a)) (ht : ∀ b xs, H b = some (.tup xs) → H' b = some (.tup xs)) : ObjOk P w H' h' a o := by
  induction o with
  | lst xs => obtain ⟨z, its, n, r, e⟩ := x; exact ⟨z, its, n, r, k _ _ (.inl rfl) e⟩
  | tup xs => obtain ⟨z, its, r, ob, e, c⟩ := x; exact ⟨z, its, r, ob, k _ _ (.inl rfl) e, c⟩
  | dK kvs => obtain ⟨z, y, vs, r, ob, es, ep, e, c⟩ := x; exact ⟨z, y, vs, r, ob, es, ep, k _ _ (.inl rfl) e, c⟩
  | dT kvs =>
    obtain ⟨z, y, xs, r, ob, es, ep, e, c⟩ := x
    exact ⟨z, y, xs, Paired.mapP r fun p q z => ⟨z.1, ht _ _ z.2.1, z.2.2⟩, ob, es, ep, k _ _ (.inl rfl) e, c⟩
  | set S n => obtain ⟨ob, es, ep, t, e, c⟩ := x; exact ⟨ob, es, ep, t, k _ _ (.inl rfl) e, c⟩
  | ins C dx fs =>
    obtain ⟨d, z, ne, e, mA, ⟨od, es, ep, e2, c⟩, r⟩ := x
    exact ⟨ho _ d, z, ne, k _ _ (.inl rfl) e, mA, ⟨od, es, ep, k _ _ (.inr d) e2, c⟩, r⟩
  | own y => obtain ⟨ob, e⟩ := x; exact ⟨ob, k _ _ (.inl rfl) e⟩
  | xd fs => obtain ⟨mA, ⟨od, es, ep, e, c⟩, r⟩ := x; exact ⟨mA, ⟨od, es, ep, k _ _ (.inl rfl) e, c⟩, r⟩
  | rng lo hi => obtain ⟨t, u, v, e⟩ := x; exact ⟨t, u, v, k _ _ (.inl rfl) e⟩
  | frz ob u ih => obtain ⟨e, q⟩ := x; exact ⟨k _ _ (.inl rfl) e, ih q⟩
  | tbl ps =>
    have e : h.get? a = some { cls := .none, data := .fields ps } := x
    show h'.get? a = some { cls := .none, data := .fields ps }
    exact k a _ (.inl rfl) e
  | met f y =>
    have e : h.get? a = some (PySem.W.methodObj (.ref f) (.ref y)) := x
    show h'.get? a = some (PySem.W.methodObj (.ref f) (.ref y))
    exact k a _ (.inl rfl) e
  | ext φ => obtain ⟨p, ⟨o, e⟩, st⟩ := x; exact ⟨st _ _ p fun o q => k _ _ (.inl rfl) q, ⟨o, k _ _ (.inl rfl) e⟩, st⟩
theorem HOk.lt (x : HOk P w H h) (e : H a = some o) : a < h.objs.size := (x a o e).lt
theorem HOk.fresh (x : HOk P w H h) (e : h.objs.size ≤ a) : H a = none := by
  cases q : H a with
  | none => rfl
  | some u => exact absurd (Nat.lt_of_lt_of_le (x.lt q) e) (Nat.lt_irrefl _)
/-- every object of the heap is kept -/
theorem HOk.kept (x : HOk P w H h) (k : ∀ b u, h.get? b = some u → h'.get? b = some u) : HOk P w H h' := fun a o e =>
  (x a o e).stay (fun b u _ q => k b u q) (fun _ q => q) fun _ _ q => q
/-- a new object is laid and tracked -/
theorem HOk.laid (x : HOk P w H h) (k : ∀ b u, h.get? b = some u → h'.get? b = some u) (hp : h.objs.size ≤ a) (new : ObjOk P w (upd H a o) h' a o) : HOk P w (upd H a o) h' := fun b u e => by
  have hn := x.fresh hp
  by_cases hb : b = a
  · subst hb; rw [upd_same] at e; cases e; exact new
  · rw [upd_ne hb] at e
    exact (x b u e).stay (fun c v _ q => k c v q) (fun c q => by rw [upd_ne (ne_of_none q hn)]; exact q) fun c xs q => by rw [upd_ne (ne_of_none q hn)]; exact q
end

/-- what may be read as u: it is u, or a known u -/
def Rd (H : Hp) (a : Addr) (u : HO) : Prop := H a = some u ∨ ∃ o, H a = some (.frz o u)
theorem Rd.of {H : Hp} {a : Addr} {u : HO} (h : H a = some u) : Rd H a u := .inl h
theorem Rd.ok {P : Program} {w : World} {H : Hp} {h : Heap} {a : Addr} {u : HO} (r : Rd H a u) (x : HOk P w H h) : ObjOk P w H h a u := by
  rcases r with r | ⟨o, r⟩
  · exact x a u r
  · obtain ⟨_, q⟩ := x a _ r
    exact q
/-- what may be written -/
def Mut : Option HO → Prop
  | some (.lst _) => True
  | some (.dK _) => True
  | some (.dT _) => True
  | some (.set _ _) => True
  | some (.ins _ _ _) => True
  | some (.ext _) => True
  | _ => False
section
variable {P : Program} {w : World} {H : Hp} {h h' : Heap} {x e : Addr} {o' : HO}
/-- the object at e is changed: x itself, or the dict of the instance x -/
theorem HOk.write (ok : HOk P w H h) (mu : Mut (H x)) (he : e = x ∨ H e = some (.own x)) (k : ∀ b u, b ≠ e → h.get? b = some u → h'.get? b = some u) (heo : ∃ u, h'.get? e = some u)
    (new : ObjOk P w (upd H x o') h' x o') : HOk P w (upd H x o') h' := fun b u q => by
  have nown : ∀ c y, H c = some (.own y) → c ≠ x := fun c y r z => by subst z; rw [r] at mu; exact mu
  have ntup : ∀ c xs, H c = some (.tup xs) → c ≠ x := fun c xs r z => by subst z; rw [r] at mu; exact mu
  by_cases hb : b = x
  · subst hb; rw [upd_same] at q; cases q; exact new
  · rw [upd_ne hb] at q
    by_cases hbe : b = e
    · have q' : H b = some (.own x) := by
        rcases he with z | z
        · exact absurd (hbe.trans z) hb
        · rw [hbe]; exact z
      rw [q] at q'; cases q'
      obtain ⟨v, hv⟩ := heo
      exact ⟨v, by rw [hbe]; exact hv⟩
    · refine (ok b u q).stay (fun c v hc r => k c v ?_ r) (fun c r => by rw [upd_ne (nown c b r)]; exact r) fun c xs r => by rw [upd_ne (ntup c xs r)]; exact r
      rcases hc with rfl | hc
      · exact hbe
      · rintro rfl
        rcases he with z | z
        · exact nown c b hc z
        · rw [hc] at z; cases z; exact hb rfl
end

/-! ### kept unless tracked; of the frames at fs (the callers') the slots may change (an exception that passes writes there); of the records at ex (iterators) nothing is said -/
structure Un (fs ex : List Addr) (H H' : Hp) (h h' : Heap) : Prop where
  keep : ∀ b o, h.get? b = some o → H b = none → b ∉ fs → b ∉ ex → h'.get? b = some o
  slot : ∀ b o, h.get? b = some o → H b = none → b ∈ fs → b ∉ ex → ∃ sl, h'.get? b = some { o with slots := sl }
  free : ∀ b o, h.get? b = some o → H b = none → b ∉ ex → H' b = none
  there : ∀ b o, h.get? b = some o → b ∉ ex → ∃ o', h'.get? b = some o'
  tups : ∀ b xs, H b = some (.tup xs) → H' b = some (.tup xs)
  frzs : ∀ b o u, H b = some (.frz o u) → H' b = some (.frz o u)
  tbls : ∀ b ps, H b = some (.tbl ps) → ∃ more, H' b = some (.tbl (ps ++ more))
section
variable {fs fs' ex ex' : List Addr} {H H1 H2 : Hp} {h h1 h2 h' : Heap} {a x e : Addr} {o : HO}
theorem Un.any (u : Un fs ex H H1 h h1) {b : Addr} {ob : Obj} (q : h.get? b = some ob) (n : H b = none) (hx : b ∉ ex) : ∃ sl, h1.get? b = some { ob with slots := sl } := by
  by_cases hb : b ∈ fs
  · exact u.slot b ob q n hb hx
  · exact ⟨ob.slots, u.keep b ob q n hb hx⟩
theorem Un.trans (a : Un fs ex H H1 h h1) (b : Un fs ex H1 H2 h1 h2) : Un fs ex H H2 h h2 where
  keep := fun c ob q n hc hx => b.keep c ob (a.keep c ob q n hc hx) (a.free c ob q n hx) hc hx
  slot := fun c ob q n hc hx => by
    obtain ⟨sl, e1⟩ := a.slot c ob q n hc hx
    obtain ⟨sl', e2⟩ := b.slot c _ e1 (a.free c ob q n hx) hc hx
    exact ⟨sl', e2⟩
  free := fun c ob q n hx => by
    obtain ⟨o', e1⟩ := a.there c ob q hx
    exact b.free c o' e1 (a.free c ob q n hx) hx
  there := fun c ob q hx => by
    obtain ⟨o', e1⟩ := a.there c ob q hx
    exact b.there c o' e1 hx
  tups := fun c xs q => b.tups c xs (a.tups c xs q)
  frzs := fun c ob xs q => b.frzs c ob xs (a.frzs c ob xs q)
  tbls := fun c ps q => by
    obtain ⟨m1, e1⟩ := a.tbls c ps q
    obtain ⟨m2, e2⟩ := b.tbls c _ e1
    exact ⟨m1 ++ m2, by rw [e2, Array.append_assoc]⟩
theorem Un.kept (k : ∀ b u, h.get? b = some u → h'.get? b = some u) : Un fs ex H H h h' :=
  ⟨fun b ob q _ _ _ => k b ob q, fun b ob q _ _ _ => ⟨ob.slots, k b ob q⟩, fun _ _ _ n _ => n, fun b ob q _ => ⟨ob, k b ob q⟩, fun _ _ q => q, fun _ _ _ q => q, fun _ ps q => ⟨#[], by rw [q]; simp⟩⟩
theorem Un.refl : Un fs ex H H h h := Un.kept fun _ _ q => q
theorem Un.laid (k : ∀ b u, h.get? b = some u → h'.get? b = some u) (hp : h.objs.size ≤ a) (hn : H a = none) : Un fs ex H (upd H a o) h h' where
  keep := fun b u q _ _ _ => k b u q
  slot := fun b u q _ _ _ => ⟨u.slots, k b u q⟩
  free := fun b u q n _ => by rw [upd_ne (Nat.ne_of_lt (Nat.lt_of_lt_of_le (Heap.lt_size q) hp))]; exact n
  there := fun b u q _ => ⟨u, k b u q⟩
  tups := fun b xs q => by rw [upd_ne (ne_of_none q hn)]; exact q
  frzs := fun b u xs q => by rw [upd_ne (ne_of_none q hn)]; exact q
  tbls := fun b ps q => ⟨#[], by rw [upd_ne (ne_of_none q hn), q]; simp⟩
theorem Un.write (mu : Mut (H x)) (he : e = x ∨ H e = some (.own x)) (k : ∀ b u, b ≠ e → h.get? b = some u → h'.get? b = some u) (heo : ∃ u, h'.get? e = some u) : Un fs ex H (upd H x o) h h' := by
  have hx : ∀ b, H b = none → b ≠ x := fun b n z => by subst z; rw [n] at mu; exact mu
  have hb : ∀ b, H b = none → b ≠ e := fun b n z => by
    subst z
    rcases he with r | r
    · exact hx b n r
    · rw [n] at r; cases r
  have hm : ∀ b u, H b = some u → ¬ Mut (some u) → b ≠ x := fun b u q nm z => by subst z; rw [q] at mu; exact nm mu
  refine ⟨fun b u q n _ _ => k b u (hb b n) q, fun b u q n _ _ => ⟨u.slots, k b u (hb b n) q⟩, fun b u q n _ => by rw [upd_ne (hx b n)]; exact n, fun b u q _ => ?_,
    fun b xs q => by rw [upd_ne (hm b _ q fun z => z)]; exact q, fun b u xs q => by rw [upd_ne (hm b _ q fun z => z)]; exact q, fun b ps q => ⟨#[], by rw [upd_ne (hm b _ q fun z => z), q]; simp⟩⟩
  by_cases hbe : b = e
  · subst hbe; exact heo
  · exact ⟨u, k b u hbe q⟩
theorem Un.mono (u : Un fs ex H H1 h h1) (hs : ∀ b ∈ fs, b ∈ fs') (hx : ∀ b ∈ ex, b ∈ ex') : Un fs' ex' H H1 h h1 :=
  ⟨fun b ob q n hb he => u.keep b ob q n (fun z => hb (hs b z)) fun z => he (hx b z), fun _ _ q n _ he => u.any q n fun z => he (hx _ z), fun b ob q n he => u.free b ob q n fun z => he (hx b z), fun b ob q he => u.there b ob q fun z => he (hx b z), u.tups, u.frzs, u.tbls⟩
end

/-! ### the heap without what is tracked -/
def trk (h : Heap) (H : Hp) : List Addr := (List.range h.objs.size).filter fun a => (H a).isSome
def hidT (h : Heap) (H : Hp) : Heap := PySem.W.hideAll h (trk h H)
theorem hidT_size (h : Heap) (H : Hp) : (hidT h H).objs.size = h.objs.size := PySem.W.hideAll_size _ _
theorem hidT_get {h : Heap} {H : Hp} {b : Addr} {o : Obj} (e : h.get? b = some o) (n : H b = none) : (hidT h H).get? b = some o :=
  PySem.W.hideAll_get _ e fun hm => by
    have q : (H b).isSome = true := (List.mem_filter.mp hm).2
    rw [n] at q; simp at q
theorem of_hidT {h : Heap} {H : Hp} {b : Addr} {o : Obj} (e : (hidT h H).get? b = some o) : h.get? b = some o ∧ H b = none := by
  have e' : h.get? b = some o := PySem.W.of_hideAll (trk h H) e
  refine ⟨e', ?_⟩
  cases q : H b with
  | none => rfl
  | some x =>
    have hm : b ∈ trk h H := List.mem_filter.mpr ⟨List.mem_range.mpr (Heap.lt_size e'), by simp [q]⟩
    have z : (hidT h H).get? b = none := PySem.W.hideAll_none (trk h H) hm
    rw [z] at e; cases e

/-! ### OpenK's ledger, filled with every new object but one -/
def allNews (g h : Heap) (L : Addr) : List (Addr × Obj) := (List.range h.objs.size).filterMap fun a => if a = L ∨ (g.get? a).isSome = true then none else (h.get? a).map fun o => (a, o)
theorem mem_allNews {g h : Heap} {L a : Addr} {o : Obj} (h1 : a ≠ L) (h2 : g.get? a = none) (h3 : h.get? a = some o) : (a, o) ∈ allNews g h L :=
  List.mem_filterMap.mpr ⟨a, List.mem_range.mpr (Heap.lt_size h3), by simp [h1, h2, h3]⟩
theorem of_mem_allNews {g h : Heap} {L : Addr} {p : Addr × Obj} (hp : p ∈ allNews g h L) : p.1 ≠ L ∧ g.get? p.1 = none ∧ h.get? p.1 = some p.2 := by
  obtain ⟨b, _, e⟩ := List.mem_filterMap.mp hp
  split at e
  · cases e
  · rename_i hn
    cases q : h.get? b with
    | none => rw [q] at e; simp at e
    | some u =>
      rw [q] at e
      simp only [Option.map_some, Option.some.injEq] at e
      subst e
      refine ⟨fun z => hn (.inl z), ?_, q⟩
      show g.get? b = none
      cases r : g.get? b with
      | none => rfl
      | some v => exact (hn (.inr (by simp [r]))).elim
def rest (g h : Heap) (L d : Addr) : List (Addr × Obj) := (allNews g h L).filter fun p => decide (p.1 ≠ d)
theorem rest_ne {g h : Heap} {L d : Addr} : ∀ p ∈ rest g h L d, p.1 ≠ d := fun p hp => of_decide_eq_true (List.mem_filter.mp hp).2
theorem mem_rest {g h : Heap} {L d a : Addr} {o : Obj} (h1 : a ≠ L) (h2 : g.get? a = none) (h3 : h.get? a = some o) (h4 : a ≠ d) : (a, o) ∈ rest g h L d :=
  List.mem_filter.mpr ⟨mem_allNews h1 h2 h3, decide_eq_true h4⟩
theorem news_all {g h : Heap} {L : Addr} : News g L h (allNews g h L) := fun p hp => let ⟨a, b, c⟩ := of_mem_allNews hp; ⟨c, a, b⟩
theorem news_at {g h : Heap} {L d : Addr} {o : Obj} (h1 : d ≠ L) (h2 : g.get? d = none) (h3 : h.get? d = some o) : News g L h ((d, o) :: rest g h L d) := fun p hp => by
  rcases List.mem_cons.mp hp with rfl | hp
  · exact ⟨h3, h1, h2⟩
  · exact news_all p (List.mem_filter.mp hp).1
/-- behind a rule that changed d alone: all else but the frame is kept -/
theorem kept_of_news {g h h' : Heap} {L d : Addr} {m : Str → Option Value} (k : ∀ b o, g.get? b = some o → h.get? b = some o) (F : Fr g L h' m) (N : News g L h' (rest g h L d)) :
    ∀ b o, b ≠ L → b ≠ d → h.get? b = some o → h'.get? b = some o := fun b o h1 h2 e => by
  cases q : g.get? b with
  | some u =>
    have := k b u q
    rw [e] at this; cases this
    exact F.keep b _ q
  | none => exact (N (b, o) (mem_rest h1 q e h2)).1
end L2

namespace L2
open PySem PySem.Spec PyProof.Rows

/-- the module's facts, over the base: the heap at the law's entry without what is tracked there -/
structure Mod (K : PySem.W.Frag) (mg : Str → Option Value) (base : Heap) : Prop where
  kin : K.In base
  glob : base.Ns mainGlobals mg
  blt : ∃ mb, base.Ns builtinsNs mb ∧ ∀ x : Str, x ≠ "__name__" → mb x = bootBuiltins x
  nolimit : base.NoLimit

/-- the context: a def's body (or a comprehension's block) running. base: fixed through the whole law; s₀, H₀: the entry; outer: the frames whose slots others may change (a def's callers); stack: all frames that run;
   ex: iterators that were made ahead of the entry and are walked here (a comprehension's); fn: the names whose cells were made at the entry (a def: all; a comprehension's block: its own); calm: not within an except suite; pn: pins that every state bears; xe: what is wanted of an exception that leaves the code -/
structure Cx where
  prog : Program
  w : World
  K : PySem.W.Frag
  mg : Str → Option Value
  base : Heap
  A : Around
  N : List Str
  s₀ : Shared
  H₀ : Hp
  env : Env
  outer : List Env
  stack : List Env
  ex : List Addr
  fn : Str → Bool
  calm : Bool
  pn : List (Addr × Obj)
  xe : Value → Shared → Prop
/-- the callers' frames -/
def frs (l : List Env) : List Addr := l.filterMap (·.frame)
abbrev Cx.fs (X : Cx) : List Addr := frs X.outer

def Vis (sc : Scope) (x : Str) : Prop := sc.names.lookup x = some .local ∨ sc.names.lookup x = some .cell ∨ sc.names.lookup x = some .free
def Loc (sc : Scope) (x : Str) : Prop := sc.names.lookup x = some .local ∨ sc.names.lookup x = some .cell
def Look (env : Env) (h : Heap) (m : Str → Option Value) (x : Str) (u : Value) : Prop :=
  (env.kindOf x = some .local ∧ m x = some u) ∨ ((env.kindOf x = some .cell ∨ env.kindOf x = some .free) ∧ ∃ c, env.cells.lookup x = some c ∧ h.IsCell c (some u))

structure Cx.Ok (X : Cx) : Prop where
  mod : Mod X.K X.mg X.base
  kind : X.env.scope.kind = .function
  glob : X.env.globals = mainGlobals
  blt : X.env.builtins = builtinsNs
  above : X.s₀.heap.objs.size ≤ X.env.locals
  inj : ∀ x y c, X.env.cells.lookup x = some c → X.env.cells.lookup y = some c → x = y
  has : ∀ x, (X.env.kindOf x = some .cell ∨ X.env.kindOf x = some .free) → ∃ c, X.env.cells.lookup x = some c
  cab : ∀ x c, X.fn x = true → X.env.cells.lookup x = some c → X.s₀.heap.objs.size ≤ c
  hd : X.calm = true → X.A.handled = none
  frames : X.A.frames = some X.stack
  stk : X.stack = X.outer ∨ (X.stack = X.env :: X.outer ∧ X.env.frame = some X.env.locals)
  exf : ∀ b ∈ X.ex, b ≠ X.env.locals ∧ ∀ x c, X.env.cells.lookup x = some c → c ≠ b
  bs : ∀ b o, X.base.get? b = some o → X.s₀.heap.get? b = some o ∧ X.H₀ b = none
  bsz : X.base.objs.size ≤ X.s₀.heap.objs.size
  noex : ∀ b o, X.base.get? b = some o → b ∉ X.ex
  exfs : ∀ b ∈ X.ex, b ∉ X.fs
  funs : X.s₀.heap.FunFrames X.base X.outer
  frf : ∀ b ∈ X.fs, X.H₀ b = none

structure Inv (X : Cx) (pins : List (Addr × Obj)) (σ : List (Option V)) (H : Hp) (s : Shared) : Prop where
  ok : X.Ok
  os : s.os = X.s₀.os
  bare : AllBare s.gens
  base : Un X.fs X.ex X.H₀ H X.s₀.heap s.heap
  loc : ∃ m, s.heap.Ns X.env.locals m ∧ ∀ (i : Nat) (x : Str) (v : V), X.N[i]? = some x → σ[i]? = some (some v) → Vis X.env.scope x → ∃ u, RelV v u ∧ Look X.env s.heap m x u
  cell : ∀ x c, X.env.cells.lookup x = some c → ∃ v, s.heap.IsCell c v
  free : H X.env.locals = none
  freeC : ∀ x c, X.env.cells.lookup x = some c → H c = none
  pin : ∀ p ∈ X.pn ++ pins, s.heap.get? p.1 = some p.2 ∧ H p.1 = none ∧ p.1 ≠ X.env.locals ∧ p.1 ∉ X.fs ∧ ∀ v, p.2.data ≠ .cell v
  hok : HOk X.prog X.w H s.heap
  len : σ.length = X.N.length

section
variable {X : Cx} {pins : List (Addr × Obj)} {σ : List (Option V)} {H H' : Hp} {s : Shared} {h' : Heap}

theorem Cx.Ok.nofr (ok : X.Ok) {b : Addr} {o : Obj} (e : X.base.get? b = some o) : b ∉ X.fs := fun hb => by
  have := (ok.funs.mem hb).1
  rw [e] at this; cases this
theorem Inv.bs (I : Inv X pins σ H s) : ∀ b o, X.base.get? b = some o → s.heap.get? b = some o ∧ H b = none := fun b o e =>
  ⟨I.base.keep b o (I.ok.bs b o e).1 (I.ok.bs b o e).2 (I.ok.nofr e) (I.ok.noex b o e), I.base.free b o (I.ok.bs b o e).1 (I.ok.bs b o e).2 (I.ok.noex b o e)⟩
theorem Inv.bk (I : Inv X pins σ H s) : ∀ b o, X.base.get? b = some o → s.heap.get? b = some o := fun b o e => (I.bs b o e).1
theorem Inv.mod (I : Inv X pins σ H s) : Mod X.K X.mg X.base := I.ok.mod
theorem Inv.kIn (I : Inv X pins σ H s) : X.K.In s.heap := I.ok.mod.kin.keeps I.bk
theorem Inv.nolimit (I : Inv X pins σ H s) : s.heap.NoLimit := I.ok.mod.nolimit.keeps I.bk
/-- the frame over the base: for OpenK's rules (K.In X.base is I.mod.kin) -/
theorem Inv.fr (I : Inv X pins σ H s) : ∃ m, Fr X.base X.env.locals s.heap m :=
  let ⟨m, hn, _⟩ := I.loc
  ⟨m, hn, I.bk, Nat.le_trans I.ok.bsz I.ok.above⟩
theorem Inv.lt (I : Inv X pins σ H s) : X.env.locals < s.heap.objs.size := let ⟨_, hn, _⟩ := I.loc; hn.lt
theorem Inv.sz (I : Inv X pins σ H s) : X.s₀.heap.objs.size ≤ s.heap.objs.size := Nat.le_trans I.ok.above (Nat.le_of_lt I.lt)
theorem Inv.nofs (I : Inv X pins σ H s) {a : Addr} (h : s.heap.objs.size ≤ a) : a ∉ X.fs := fun hb => by
  obtain ⟨_, o, ho, _⟩ := I.ok.funs.mem hb
  exact absurd (Nat.lt_of_lt_of_le (Heap.lt_size ho) (Nat.le_trans I.sz h)) (Nat.lt_irrefl _)
theorem Inv.cne (I : Inv X pins σ H s) : ∀ x c, X.env.cells.lookup x = some c → c ≠ X.env.locals := fun x c e z => by
  obtain ⟨v, o, ho, hd⟩ := I.cell x c e
  obtain ⟨m, ⟨o', es, ep, ho', hd', _⟩, _⟩ := I.loc
  rw [z, ho'] at ho; cases ho; rw [hd'] at hd; cases hd
theorem Inv.funs (I : Inv X pins σ H s) : s.heap.FunFrames X.base X.outer := by
  have all : ∀ (l : List Env), (∀ b ∈ frs l, b ∈ X.fs) → X.s₀.heap.FunFrames X.base l → s.heap.FunFrames X.base l := by
    intro l
    induction l with
    | nil => intro _ _; trivial
    | cons env r ih =>
      intro hs hl
      obtain ⟨hk, ⟨L, o, hf, hn, ho, hd⟩, hr⟩ := hl
      have hL : L ∈ X.fs := hs L (by unfold frs; rw [List.filterMap_cons, hf]; exact List.mem_cons_self)
      obtain ⟨sl, e⟩ := I.base.slot L o ho (I.ok.frf L hL) hL fun z => I.ok.exfs L z hL
      exact ⟨hk, ⟨L, _, hf, hn, e, hd⟩, ih (fun b hb => hs b (by unfold frs; rw [List.filterMap_cons, hf]; exact List.mem_cons_of_mem _ hb)) hr⟩
  exact all X.outer (fun _ hb => hb) I.ok.funs

/-- the frames that run, for a call -/
theorem Inv.stack (I : Inv X pins σ H s) : s.heap.FunFrames X.base X.stack := by
  rcases I.ok.stk with e | ⟨e, hf⟩
  · rw [e]; exact I.funs
  · rw [e]
    obtain ⟨m, hn, _⟩ := I.loc
    refine .cons (by rw [I.ok.kind]; decide) hf hn ?_ I.funs
    exact Heap.get?_none_of_le (Nat.le_trans I.ok.bsz I.ok.above)
theorem Inv.stkSub (I : Inv X pins σ H s) : ∀ b ∈ frs X.stack, b ∈ X.env.locals :: X.fs := fun b hb => by
  rcases I.ok.stk with e | ⟨e, hf⟩
  · rw [e] at hb; exact List.mem_cons_of_mem _ hb
  · rw [e] at hb
    unfold frs at hb
    rw [List.filterMap_cons, hf] at hb
    exact hb
theorem Inv.stkFree (I : Inv X pins σ H s) : ∀ b ∈ frs X.stack, H b = none := fun b hb => by
  rcases List.mem_cons.mp (I.stkSub b hb) with e | hb
  · rw [e]; exact I.free
  · obtain ⟨_, o, ho, _⟩ := I.ok.funs.mem hb
    exact I.base.free b o ho (I.ok.frf b hb) fun z => I.ok.exfs b z hb

/-- THE STEP: the untracked objects but the frame and the records at ch are kept (the callers' frames up to slots), the frame's map is kept, the new abstract heap is held -/
theorem Inv.step {g' : Array GenState} {t' : Nat} {d' : Drawn} {ch : List Addr} (I : Inv X pins σ H s)
    (hch : ∀ b ∈ ch, (b ∈ X.ex ∨ X.s₀.heap.objs.size ≤ b) ∧ b ≠ X.env.locals ∧ (∀ x c, X.env.cells.lookup x = some c → c ≠ b) ∧ ∀ p ∈ X.pn ++ pins, p.1 ≠ b)
    (keep : ∀ b o, b ≠ X.env.locals → b ∉ X.fs → b ∉ ch → s.heap.get? b = some o → H b = none → h'.get? b = some o)
    (slot : ∀ b o, b ≠ X.env.locals → b ∈ X.fs → b ∉ ch → s.heap.get? b = some o → H b = none → ∃ sl, h'.get? b = some { o with slots := sl }) (free : ∀ b o, b ∉ ch → s.heap.get? b = some o → H b = none → H' b = none)
    (there : ∀ b o, b ∉ ch → s.heap.get? b = some o → ∃ o', h'.get? b = some o')
    (tups : ∀ b xs, H b = some (.tup xs) → H' b = some (.tup xs)) (frzs : ∀ b o u, H b = some (.frz o u) → H' b = some (.frz o u)) (tbls : ∀ b ps, H b = some (.tbl ps) → ∃ more, H' b = some (.tbl (ps ++ more)))
    (ns : ∀ m, s.heap.Ns X.env.locals m → h'.Ns X.env.locals m) (hok : HOk X.prog X.w H' h') (hg : AllBare g') :
    Inv X pins σ H' { s with heap := h', gens := g', drawn := d', toks := t' } := by
  have neL : ∀ b o, X.s₀.heap.get? b = some o → b ≠ X.env.locals := fun b o e => Nat.ne_of_lt (Nat.lt_of_lt_of_le (Heap.lt_size e) I.ok.above)
  have neC : ∀ b o, X.s₀.heap.get? b = some o → b ∉ X.ex → b ∉ ch := fun b o e hx hb => by
    rcases (hch b hb).1 with z | z
    · exact hx z
    · exact absurd (Nat.lt_of_lt_of_le (Heap.lt_size e) z) (Nat.lt_irrefl _)
  have cellK : ∀ x c, X.env.cells.lookup x = some c → ∀ v, s.heap.IsCell c v → h'.IsCell c v := fun x c e v ⟨o, ho, hd⟩ => by
    have nch : c ∉ ch := fun z => (hch c z).2.2.1 x c e rfl
    by_cases hc : c ∈ X.fs
    · obtain ⟨sl, q⟩ := slot c o (I.cne x c e) hc nch ho (I.freeC x c e)
      exact ⟨_, q, hd⟩
    · exact ⟨o, keep c o (I.cne x c e) hc nch ho (I.freeC x c e), hd⟩
  refine ⟨I.ok, I.os, hg, ⟨fun b o e n hb hx => ?_, fun b o e n hb hx => ?_, fun b o e n hx => ?_, fun b o e hx => ?_, fun b xs e => tups b xs (I.base.tups b xs e), fun b o xs e => frzs b o xs (I.base.frzs b o xs e), fun b ps e => ?_⟩, ?_, fun x c e => ?_, ?_, fun x c e => ?_, fun p hp => ?_, hok, I.len⟩
  · exact keep b o (neL b o e) hb (neC b o e hx) (I.base.keep b o e n hb hx) (I.base.free b o e n hx)
  · obtain ⟨sl, e1⟩ := I.base.slot b o e n hb hx
    obtain ⟨sl', e2⟩ := slot b _ (neL b o e) hb (neC b o e hx) e1 (I.base.free b o e n hx)
    exact ⟨sl', e2⟩
  · obtain ⟨o', e1⟩ := I.base.there b o e hx
    exact free b o' (neC b o e hx) e1 (I.base.free b o e n hx)
  · obtain ⟨o', e1⟩ := I.base.there b o e hx
    exact there b o' (neC b o e hx) e1
  · obtain ⟨m1, e1⟩ := I.base.tbls b ps e
    obtain ⟨m2, e2⟩ := tbls b _ e1
    exact ⟨m1 ++ m2, by rw [e2, Array.append_assoc]⟩
  · obtain ⟨m, hn, hl⟩ := I.loc
    refine ⟨m, ns m hn, fun i x v e1 e2 e3 => ?_⟩
    obtain ⟨u, r, l⟩ := hl i x v e1 e2 e3
    refine ⟨u, r, ?_⟩
    rcases l with l | ⟨k, c, e, z⟩
    · exact .inl l
    · exact .inr ⟨k, c, e, cellK x c e _ z⟩
  · obtain ⟨v, z⟩ := I.cell x c e
    exact ⟨v, cellK x c e v z⟩
  · obtain ⟨m, ⟨o, _, _, ho, _⟩, _⟩ := I.loc
    exact free _ o (fun z => (hch _ z).2.1 rfl) ho I.free
  · obtain ⟨v, o, ho, hd⟩ := I.cell x c e
    exact free c o (fun z => (hch c z).2.2.1 x c e rfl) ho (I.freeC x c e)
  · obtain ⟨e, n, ne, nf, d⟩ := I.pin p hp
    have nch : p.1 ∉ ch := fun z => (hch p.1 z).2.2.2 p hp rfl
    exact ⟨keep p.1 p.2 ne nf nch e n, free p.1 p.2 nch e n, ne, nf, d⟩
/-- .. where the frame's own object is kept too -/
theorem Inv.un {t' : Nat} (I : Inv X pins σ H s) (u : Un X.fs [] H H' s.heap h') (hok : HOk X.prog X.w H' h') : Inv X pins σ H' { s with heap := h', toks := t' } := by
  obtain ⟨m, ⟨o, es, ep, ho, r⟩, _⟩ := id I.loc
  obtain ⟨sl, hL⟩ := u.any ho I.free (by simp)
  exact I.step (g' := s.gens) (d' := s.drawn) (ch := []) (fun _ z => nomatch z) (fun b o _ hb _ e n => u.keep b o e n hb (by simp)) (fun b o _ hb _ e n => u.slot b o e n hb (by simp)) (fun b o _ e n => u.free b o e n (by simp)) (fun b o _ e => u.there b o e (by simp)) u.tups u.frzs u.tbls (fun m' hm => by
    obtain ⟨o', es', ep', ho', r'⟩ := hm
    rw [ho] at ho'; cases ho'
    exact ⟨_, es', ep', hL, r'⟩) hok I.bare
/-- behind a call (or a comprehension's block): the slots of this frame may have changed too, the records at ch may have turned -/
theorem Inv.call {g' : Array GenState} {t' : Nat} {d' : Drawn} {ch : List Addr} (I : Inv X pins σ H s) (u : Un (frs X.stack) ch H H' s.heap h') (hok : HOk X.prog X.w H' h') (hg : AllBare g')
    (hch : ∀ b ∈ ch, (b ∈ X.ex ∨ X.s₀.heap.objs.size ≤ b) ∧ b ≠ X.env.locals ∧ (∀ x c, X.env.cells.lookup x = some c → c ≠ b) ∧ ∀ p ∈ X.pn ++ pins, p.1 ≠ b) :
    Inv X pins σ H' { s with heap := h', gens := g', drawn := d', toks := t' } := by
  obtain ⟨m, ⟨o, es, ep, ho, r⟩, _⟩ := id I.loc
  obtain ⟨sl, hL⟩ := u.any ho I.free fun z => (hch _ z).2.1 rfl
  exact I.step (ch := ch) hch (fun b o hL hb hc e n => u.keep b o e n (fun z => (List.mem_cons.mp (I.stkSub b z)).elim hL hb) hc) (fun b o _ _ hc e n => u.any e n hc) (fun b o hc e n => u.free b o e n hc) (fun b o hc e => u.there b o e hc) u.tups u.frzs u.tbls (fun m' hm => by
    obtain ⟨o', es', ep', ho', r'⟩ := hm
    rw [ho] at ho'; cases ho'
    exact ⟨_, es', ep', hL, r'⟩) hok hg
/-- an untracked record of ours (an iterator) has turned -/
theorem Inv.turned {t' : Nat} {it : Addr} (I : Inv X pins σ H s) (k : ∀ b o, b ≠ it → s.heap.get? b = some o → h'.get? b = some o) (hn : H it = none) (hL : it ≠ X.env.locals)
    (h1 : it ∈ X.ex ∨ X.s₀.heap.objs.size ≤ it) (h2 : ∀ x c, X.env.cells.lookup x = some c → c ≠ it) (h3 : ∀ p ∈ X.pn ++ pins, p.1 ≠ it) : Inv X pins σ H { s with heap := h', toks := t' } := by
  have nit : ∀ b u, H b = some u → b ≠ it := fun b u e z => by rw [z, hn] at e; cases e
  refine I.step (g' := s.gens) (d' := s.drawn) (ch := [it]) (fun b hb => ?_) (fun b o _ _ hc e _ => k b o (fun z => hc (by simp [z])) e) (fun b o _ _ hc e _ => ⟨o.slots, k b o (fun z => hc (by simp [z])) e⟩) (fun _ _ _ _ n => n)
    (fun b o hc e => ⟨o, k b o (fun z => hc (by simp [z])) e⟩) (fun _ _ e => e) (fun _ _ _ e => e) (fun b ps e => ⟨#[], by rw [e]; simp⟩) (fun m hm => ?_) (fun b u e => ?_) I.bare
  · have e : b = it := by simpa using hb
    subst e
    exact ⟨h1, hL, h2, h3⟩
  · obtain ⟨o, es, ep, ho, r⟩ := hm
    exact ⟨o, es, ep, k _ o (Ne.symm hL) ho, r⟩
  · refine (I.hok b u e).stay (fun c v hc q => k c v ?_ q) (fun _ q => q) fun _ _ q => q
    rcases hc with z | z
    · rw [z]; exact nit b u e
    · exact nit c _ z
theorem Inv.tok (I : Inv X pins σ H s) (t : Nat) : Inv X pins σ H { s with toks := t } := I.un (h' := s.heap) (t' := t) Un.refl I.hok
/-- all objects kept -/
theorem Inv.kept {t' : Nat} (I : Inv X pins σ H s) (k : ∀ b u, s.heap.get? b = some u → h'.get? b = some u) : Inv X pins σ H { s with heap := h', toks := t' } := I.un (Un.kept k) (I.hok.kept k)
/-- a new object laid and tracked -/
theorem Inv.laid {a : Addr} {o : HO} {t' : Nat} (I : Inv X pins σ H s) (k : ∀ b u, s.heap.get? b = some u → h'.get? b = some u) (hp : s.heap.objs.size ≤ a) (new : ObjOk X.prog X.w (upd H a o) h' a o) :
    Inv X pins σ (upd H a o) { s with heap := h', toks := t' } := I.un (Un.laid k hp (I.hok.fresh hp)) (I.hok.laid k hp new)
/-- an object written -/
theorem Inv.write {x e : Addr} {o : HO} {t' : Nat} (I : Inv X pins σ H s) (mu : Mut (H x)) (he : e = x ∨ H e = some (.own x)) (k : ∀ b u, b ≠ e → s.heap.get? b = some u → h'.get? b = some u) (heo : ∃ u, h'.get? e = some u)
    (new : ObjOk X.prog X.w (upd H x o) h' x o) : Inv X pins σ (upd H x o) { s with heap := h', toks := t' } := I.un (Un.write mu he k heo) (I.hok.write mu he k heo new)
/-- forgetting slots, pins -/
theorem Inv.weak {σ' : List (Option V)} (I : Inv X pins σ H s) (hl : σ'.length = σ.length) (w : ∀ (i : Nat) v, σ'[i]? = some (some v) → σ[i]? = some (some v)) : Inv X pins σ' H s :=
  ⟨I.ok, I.os, I.bare, I.base, let ⟨m, hn, hl'⟩ := I.loc; ⟨m, hn, fun i x v e1 e2 e3 => hl' i x v e1 (w i v e2) e3⟩, I.cell, I.free, I.freeC, I.pin, I.hok, hl.trans I.len⟩
theorem Inv.pins_of {pins' : List (Addr × Obj)} (I : Inv X pins σ H s) (h : ∀ p ∈ pins', s.heap.get? p.1 = some p.2 ∧ H p.1 = none ∧ p.1 ≠ X.env.locals ∧ p.1 ∉ X.fs ∧ ∀ v, p.2.data ≠ .cell v) : Inv X pins' σ H s :=
  ⟨I.ok, I.os, I.bare, I.base, I.loc, I.cell, I.free, I.freeC, fun p hp => (List.mem_append.mp hp).elim (fun z => I.pin p (List.mem_append_left _ z)) (h p), I.hok, I.len⟩

theorem nodup_ix {N : List Str} (hN : N.Nodup) {i j : Nat} {x : Str} (a : N[i]? = some x) (b : N[j]? = some x) : i = j := by
  obtain ⟨h1, e1⟩ := List.getElem?_eq_some_iff.mp a
  obtain ⟨h2, e2⟩ := List.getElem?_eq_some_iff.mp b
  exact (List.getElem_inj hN).mp (e1.trans e2.symm)

/-- a name is stored; what changed -/
theorem store_ok2 {M : Model} {A : Around} {E : Value → Shared → Prop} {i : Nat} {x : Str} {v : V} {u : Value} {Q : Unit → Shared → Prop} (I : Inv X pins σ H s) (hN : X.N.Nodup) (hi : X.N[i]? = some x) (hx : Loc X.env.scope x) (r : RelV v u)
    (h : ∀ s', Inv X pins (σ.set i (some v)) H s' → (∃ a, Heap.SameBut a s.heap s'.heap ∧ (a = X.env.locals ∨ X.env.cells.lookup x = some a)) → Q () s') (hf : X.fn x = true ∨ X.env.scope.names.lookup x = some .local := by first | exact .inl rfl | exact .inr rfl | assumption) : wpAny M A (storeName X.env x u) Q E s := by
  obtain ⟨m, hn, hl⟩ := id I.loc
  have hcls : (X.env.scope.kind == .class || (X.env.scope.kind == .module && X.env.locals != X.env.globals)) = false := by rw [I.ok.kind]; rfl
  have hiσ : i < σ.length := by rw [I.len]; exact (List.getElem?_eq_some_iff.mp hi).1
  have cne := I.cne
  have tracked : ∀ {a : Addr} {h' : Heap}, (∃ o, s.heap.get? a = some o ∧ H a = none) → Heap.SameBut a s.heap h' → HOk X.prog X.w H h' := fun {a h'} ha hs b ob e => by
    obtain ⟨_, _, hfree⟩ := ha
    refine (I.hok b ob e).stay (fun c w' hc q => (hs.2 c ?_).trans q) (fun _ q => q) fun _ _ q => q
    rintro rfl
    rcases hc with rfl | hc
    · rw [hfree] at e; cases e
    · rw [hfree] at hc; cases hc
  rcases hx with hk | hk
  · refine wpAny_storeName_local hk hn (fun h' hn' hs => ?_) hcls
    obtain ⟨oL, _, _, hoL, _⟩ := id hn
    refine h _ ⟨I.ok, I.os, I.bare, ⟨fun b o e n hb hx => ?_, fun b o e n hb hx => ?_, I.base.free, fun b o e hx => ?_, I.base.tups, I.base.frzs, I.base.tbls⟩, ⟨_, hn', fun j y v' e1 e2 e3 => ?_⟩, fun y c e => ?_, I.free, I.freeC, fun p hp => ?_, tracked ⟨oL, hoL, I.free⟩ hs, by simpa using I.len⟩ ⟨_, hs, .inl rfl⟩
    · exact (hs.2 b (Nat.ne_of_lt (Nat.lt_of_lt_of_le (Heap.lt_size e) I.ok.above))).trans (I.base.keep b o e n hb hx)
    · obtain ⟨sl, e1⟩ := I.base.slot b o e n hb hx
      exact ⟨sl, (hs.2 b (Nat.ne_of_lt (Nat.lt_of_lt_of_le (Heap.lt_size e) I.ok.above))).trans e1⟩
    · obtain ⟨o', e1⟩ := I.base.there b o e hx
      exact ⟨o', (hs.2 b (Nat.ne_of_lt (Nat.lt_of_lt_of_le (Heap.lt_size e) I.ok.above))).trans e1⟩
    · by_cases hj : j = i
      · subst hj
        rw [hi] at e1; cases e1
        rw [List.getElem?_set_self hiσ] at e2
        cases e2
        exact ⟨u, r, .inl ⟨hk, by simp⟩⟩
      · rw [List.getElem?_set_ne (Ne.symm hj)] at e2
        obtain ⟨u', r', q⟩ := hl j y v' e1 e2 e3
        refine ⟨u', r', ?_⟩
        rcases q with ⟨k, e⟩ | ⟨k, c, e, z⟩
        · refine .inl ⟨k, ?_⟩
          have : y ≠ x := fun e => hj (nodup_ix hN e1 (e ▸ hi))
          simp [this, e]
        · exact .inr ⟨k, c, e, z.sameBut hs (cne y c e)⟩
    · obtain ⟨w', z⟩ := I.cell y c e
      exact ⟨w', z.sameBut hs (cne y c e)⟩
    · obtain ⟨e, n, ne, nf, d⟩ := I.pin p hp
      exact ⟨(hs.2 p.1 ne).trans e, n, ne, nf, d⟩
  · have hfn : X.fn x = true := by
      rcases hf with z | z
      · exact z
      · rw [z] at hk; cases hk
    obtain ⟨c, hc⟩ := I.ok.has x (.inl hk)
    obtain ⟨w', z⟩ := I.cell x c hc
    refine wpAny_storeName_cell I.ok.kind hk hc z (fun h' hc' hs => ?_)
    obtain ⟨oc, hoc, hocd⟩ := id z
    refine h { s with heap := h' } ⟨I.ok, I.os, I.bare, ⟨fun b o e n hb hx => ?_, fun b o e n hb hx => ?_, I.base.free, fun b o e hx => ?_, I.base.tups, I.base.frzs, I.base.tbls⟩, ⟨m, hn.sameBut hs (Ne.symm (cne x c hc)), fun j y v' e1 e2 e3 => ?_⟩, fun y c' e => ?_, I.free, I.freeC, fun p hp => ?_, tracked ⟨oc, hoc, I.freeC x c hc⟩ hs, by simpa using I.len⟩ ⟨c, hs, .inr hc⟩
    · exact (hs.2 b (Nat.ne_of_lt (Nat.lt_of_lt_of_le (Heap.lt_size e) (I.ok.cab x c hfn hc)))).trans (I.base.keep b o e n hb hx)
    · obtain ⟨sl, e1⟩ := I.base.slot b o e n hb hx
      exact ⟨sl, (hs.2 b (Nat.ne_of_lt (Nat.lt_of_lt_of_le (Heap.lt_size e) (I.ok.cab x c hfn hc)))).trans e1⟩
    · obtain ⟨o', e1⟩ := I.base.there b o e hx
      exact ⟨o', (hs.2 b (Nat.ne_of_lt (Nat.lt_of_lt_of_le (Heap.lt_size e) (I.ok.cab x c hfn hc)))).trans e1⟩
    · by_cases hj : j = i
      · subst hj
        rw [hi] at e1; cases e1
        rw [List.getElem?_set_self hiσ] at e2
        cases e2
        exact ⟨u, r, .inr ⟨.inl hk, c, hc, hc'⟩⟩
      · rw [List.getElem?_set_ne (Ne.symm hj)] at e2
        obtain ⟨u', r', q⟩ := hl j y v' e1 e2 e3
        refine ⟨u', r', ?_⟩
        rcases q with q | ⟨k, c', e, z'⟩
        · exact .inl q
        · refine .inr ⟨k, c', e, z'.sameBut hs ?_⟩
          rintro rfl
          exact hj (nodup_ix hN e1 (I.ok.inj _ _ _ e hc ▸ hi))
    · by_cases hcc : c' = c
      · subst hcc; exact ⟨_, hc'⟩
      · obtain ⟨w2, z2⟩ := I.cell y c' e
        exact ⟨w2, z2.sameBut hs hcc⟩
    · obtain ⟨e, n, ne, nf, d⟩ := I.pin p hp
      refine ⟨(hs.2 p.1 ?_).trans e, n, ne, nf, d⟩
      intro q
      rw [q, hoc] at e
      have q' : oc = p.2 := Option.some.inj e
      exact d w' (by rw [← q']; exact hocd)
theorem store_ok {M : Model} {A : Around} {E : Value → Shared → Prop} {i : Nat} {x : Str} {v : V} {u : Value} {Q : Unit → Shared → Prop} (I : Inv X pins σ H s) (hN : X.N.Nodup) (hi : X.N[i]? = some x) (hx : Loc X.env.scope x) (r : RelV v u)
    (h : ∀ s', Inv X pins (σ.set i (some v)) H s' → Q () s') (hf : X.fn x = true ∨ X.env.scope.names.lookup x = some .local := by first | exact .inl rfl | exact .inr rfl | assumption) : wpAny M A (storeName X.env x u) Q E s :=
  store_ok2 I hN hi hx r (fun s' I' _ => h s' I') hf
/-- behind a call or a block, the state as it is -/
theorem Inv.call' {s' : Shared} {ch : List Addr} (I : Inv X pins σ H s) (ho : s'.os = s.os) (u : Un (frs X.stack) ch H H' s.heap s'.heap) (hok : HOk X.prog X.w H' s'.heap) (hg : AllBare s'.gens)
    (hch : ∀ b ∈ ch, (b ∈ X.ex ∨ X.s₀.heap.objs.size ≤ b) ∧ b ≠ X.env.locals ∧ (∀ x c, X.env.cells.lookup x = some c → c ≠ b) ∧ ∀ p ∈ X.pn ++ pins, p.1 ≠ b) : Inv X pins σ H' s' := by
  obtain ⟨h', g', d', t', o'⟩ := s'
  have e : o' = s.os := ho
  subst e
  exact I.call (g' := g') (t' := t') (d' := d') u hok hg hch
end

/-! ### the judgements -/
/-- an exception: its class, its own dict's address (where it has one), the abstract heap behind it -/
abbrev XK := Value → Option Addr → Hp → Prop
abbrev St := List (Option V)
abbrev VK := V → Hp → Prop
/-- an expression's reading; a test's; an argument list's -/
abbrev TE := St → Hp → VK → Prop
abbrev TT := St → Hp → (Bool → Hp → Prop) → Prop
abbrev TA := St → Hp → (List V → Hp → Prop) → Prop
/-- what is wanted behind a statement -/
structure Ends where
  nx : St → Hp → Prop
  rt : VK
  bk : St → Hp → Prop := fun _ _ => False
  ct : St → Hp → Prop := fun _ _ => False
abbrev TS := Ends → St → Hp → Prop

def EP (X : Cx) (pins : List (Addr × Obj)) (σ : St) (Q : VK) (u : Value) (s' : Shared) : Prop := ∃ v H', Inv X pins σ H' s' ∧ RelV v u ∧ Q v H'
def TP (X : Cx) (pins : List (Addr × Obj)) (σ : St) (Q : Bool → Hp → Prop) (b : Bool) (s' : Shared) : Prop := ∃ H', Inv X pins σ H' s' ∧ Q b H'
def AP (X : Cx) (pins : List (Addr × Obj)) (σ : St) (Q : List V → Hp → Prop) (us : List Value) (s' : Shared) : Prop := ∃ vs H', Inv X pins σ H' s' ∧ Vals vs us ∧ Q vs H'
def SP (X : Cx) (pins : List (Addr × Obj)) (D : Ends) (f : Flow) (s' : Shared) : Prop :=
  match f with
  | .next => ∃ σ' H', Inv X pins σ' H' s' ∧ D.nx σ' H'
  | .brk => ∃ σ' H', Inv X pins σ' H' s' ∧ D.bk σ' H'
  | .cont => ∃ σ' H', Inv X pins σ' H' s' ∧ D.ct σ' H'
  | .ret u => ∃ v σ' H', Inv X pins σ' H' s' ∧ RelV v u ∧ D.rt v H'

def PE (X : Cx) (e : Expr) (t : TE) : Prop :=
  ∀ (pins : List (Addr × Obj)) (s : Shared) (σ : St) (H : Hp) (Q : VK), Inv X pins σ H s → t σ H Q → wpAny (model X.prog X.w) X.A (eval e X.env) (EP X pins σ Q) X.xe s
def PT (X : Cx) (e : Expr) (t : TT) : Prop :=
  ∀ (pins : List (Addr × Obj)) (s : Shared) (σ : St) (H : Hp) (Q : Bool → Hp → Prop), Inv X pins σ H s → t σ H Q → wpAny (model X.prog X.w) X.A (isTrue e X.env (eval e X.env)) (TP X pins σ Q) X.xe s
/-- a test whatever its 'whole' is (and, or) -/
def PW (X : Cx) (e : Expr) (t : TT) : Prop :=
  ∀ (whole : Sem Value) (pins : List (Addr × Obj)) (s : Shared) (σ : St) (H : Hp) (Q : Bool → Hp → Prop), Inv X pins σ H s → t σ H Q → wpAny (model X.prog X.w) X.A (isTrue e X.env whole) (TP X pins σ Q) X.xe s
theorem PW.pt {X : Cx} {e : Expr} {t : TT} (h : PW X e t) : PT X e t := h _
/-- an argument list (no star), from the left -/
def PA (X : Cx) (es : List Expr) (t : TA) : Prop :=
  ∀ (pos : Pos) (pins : List (Addr × Obj)) (s : Shared) (σ : St) (H : Hp) (Q : List V → Hp → Prop), Inv X pins σ H s → t σ H Q → wpAny (model X.prog X.w) X.A (spliced (backTo pos (starEach es X.env))) (AP X pins σ Q) X.xe s
def PS (X : Cx) (st : Stmt) (t : TS) : Prop :=
  ∀ (pins : List (Addr × Obj)) (s : Shared) (σ : St) (H : Hp) (D : Ends), Inv X pins σ H s → t D σ H → wpAny (model X.prog X.w) X.A (exec st X.env) (SP X pins D) X.xe s
def PSs (X : Cx) (st : List Stmt) (t : TS) : Prop :=
  ∀ (pins : List (Addr × Obj)) (s : Shared) (σ : St) (H : Hp) (D : Ends), Inv X pins σ H s → t D σ H → wpAny (model X.prog X.w) X.A (execs st X.env) (SP X pins D) X.xe s
/-- weaken the end -/
theorem thn {α : Type} {t : Sem α} {Q Q' : α → Shared → Prop} {M : Model} {A : Around} {E : Value → Shared → Prop} {s : Shared} (h : wpAny M A t Q E s) (hQ : ∀ a s, Q a s → Q' a s) : wpAny M A t Q' E s := wpAny_mono h hQ fun _ _ x => x
end L2

namespace L2
open PySem PySem.Spec PyProof.Rows
section
variable {X : Cx}

/-- two expressions in a row -/
theorem bin {a b : Expr} {ta tb : TE} (ha : PE X a ta) (hb : PE X b tb) {pins : List (Addr × Obj)} {s : Shared} {σ : St} {H : Hp} {R : V → V → Hp → Prop} (I : Inv X pins σ H s) (h : ta σ H fun x H1 => tb σ H1 fun y H2 => R x y H2)
    {α : Type} {Q : α → Shared → Prop} {f : Value → Value → Sem α}
    (hf : ∀ v u s2 x y H2, Inv X pins σ H2 s2 → RelV x v → RelV y u → R x y H2 → wpAny (model X.prog X.w) X.A (f v u) Q X.xe s2) :
    wpAny (model X.prog X.w) X.A (eval a X.env) (fun v s₁ => wpAny (model X.prog X.w) X.A (eval b X.env) (fun u s₂ => wpAny (model X.prog X.w) X.A (f v u) Q X.xe s₂) X.xe s₁) X.xe s := by
  refine thn (ha pins s σ H _ I h) fun v s1 ⟨x, H1, I1, r1, q1⟩ => ?_
  refine thn (hb pins s1 σ H1 _ I1 q1) fun u s2 ⟨y, H2, I2, r2, q2⟩ => ?_
  exact hf v u s2 x y H2 I2 r1 r2 q2

/-! ### names and constants -/
def tVar (i : Nat) : TE := fun σ H Q => ∃ v, σ[i]? = some (some v) ∧ Q v H
def tC (v : V) : TE := fun _ H Q => Q v H
theorem pe_var {i : Nat} {x : Str} {pos : Pos} (hN : X.N[i]? = some x) (hv : Vis X.env.scope x) (hd : (x == ("__debug__" : Str)) = false := by decide) (hcd : (x == ("__classdict__" : Str)) = false := by decide) : PE X (.Name x pos) (tVar i) := by
  intro pins s σ H Q I h
  obtain ⟨v, e, h⟩ := h
  obtain ⟨m, hn, hl⟩ := I.loc
  obtain ⟨u, r, l⟩ := hl i x v hN e hv
  have fin : EP X pins σ Q u s := ⟨v, H, I, r, h⟩
  rcases l with ⟨hk, hm⟩ | ⟨hk, c, hc, hcell⟩
  · exact wpAny_Name (wpAny_loadName_local I.ok.kind hk hn hm fin) hd
  · rcases hk with hk | hk
    · exact wpAny_Name (wpAny_loadName_cell I.ok.kind hk hc hcell fin) hd
    · exact wpAny_Name (wpAny_loadName_free I.ok.kind hk hc hcell fin hcd) hd
theorem pe_int {i j pos} : PE X (.Constant (.int i) j pos) (tC (.int i)) := fun _ _ _ H _ I h => wpAny_Constant_int ⟨.int i, H, I.tok _, ⟨_, rfl⟩, h⟩
theorem pe_bl {b j pos} : PE X (.Constant (.bool b) j pos) (tC (.bl b)) := fun _ _ _ H _ I h => Constant_bool ⟨.bl b, H, I, rfl, h⟩
theorem pe_non {j pos} : PE X (.Constant .none j pos) (tC .non) := fun _ _ _ H _ I h => Constant_none ⟨.non, H, I, rfl, h⟩
theorem pe_str {x j pos} : PE X (.Constant (.str x) j pos) (tC (.str x)) := fun _ _ _ H _ I h => Calls.Constant_str ⟨.str x, H, I.tok _, ⟨_, rfl⟩, h⟩

/-- a global name of the def -/
def Gl (X : Cx) (x : Str) : Prop := X.env.kindOf x = some .globalImplicit
theorem ld_glob {E : Value → Shared → Prop} {pins : List (Addr × Obj)} {s : Shared} {σ : St} {H : Hp} {x : Str} {u : Value} {pos : Pos} {Q : Value → Shared → Prop} (I : Inv X pins σ H s) (hg : Gl X x) (hm : X.mg x = some u) (h : Q u s)
    (hd : (x == ("__debug__" : Str)) = false := by decide) : wpAny (model X.prog X.w) X.A (eval (.Name x pos) X.env) Q E s :=
  Calls.Name_function_global I.ok.kind hg (Calls.loadGlobal_global (by rw [I.ok.glob]; exact I.mod.glob.keeps I.bk) hm h) hd
theorem ld_blt {E : Value → Shared → Prop} {pins : List (Addr × Obj)} {s : Shared} {σ : St} {H : Hp} {x : Str} {u : Value} {pos : Pos} {Q : Value → Shared → Prop} (I : Inv X pins σ H s) (hg : Gl X x) (hm : X.mg x = none) (hv : bootBuiltins x = some u) (h : Q u s)
    (hn : x ≠ "__name__" := by decide) (hd : (x == ("__debug__" : Str)) = false := by decide) : wpAny (model X.prog X.w) X.A (eval (.Name x pos) X.env) Q E s := by
  obtain ⟨mb, h1, h2⟩ := I.mod.blt
  exact Calls.Name_function_global I.ok.kind hg (Calls.loadGlobal_builtin (by rw [I.ok.glob]; exact I.mod.glob.keeps I.bk) hm (by rw [I.ok.blt]; exact h1.keeps I.bk) ((h2 x hn).trans hv) h) hd
/-- a module's constant, a class, a function, as a value -/
theorem pe_glob {x : Str} {v : V} {u : Value} {pos : Pos} (hg : Gl X x) (hm : X.mg x = some u) (r : RelV v u) (hd : (x == ("__debug__" : Str)) = false := by decide) : PE X (.Name x pos) (tC v) :=
  fun _ _ _ H _ I h => ld_glob I hg hm ⟨v, H, I, r, h⟩ hd
theorem pe_bltn {x : Str} {v : V} {u : Value} {pos : Pos} (hg : Gl X x) (hm : X.mg x = none) (hv : bootBuiltins x = some u) (r : RelV v u) (hn : x ≠ "__name__" := by decide) (hd : (x == ("__debug__" : Str)) = false := by decide) : PE X (.Name x pos) (tC v) :=
  fun _ _ _ H _ I h => ld_blt I hg hm hv ⟨v, H, I, r, h⟩ hn hd

/-! ### arithmetic -/
/-- two ints -/
def t2I (ta tb : TE) (k : Int → Int → Hp → Prop) : St → Hp → Prop := fun σ H => ta σ H fun x H1 => tb σ H1 fun y H2 => ∃ i j, x = .int i ∧ y = .int j ∧ k i j H2
def tAdd (ta tb : TE) : TE := fun σ H Q => t2I ta tb (fun i j H2 => Q (.int (i + j)) H2) σ H
def tSub (ta tb : TE) : TE := fun σ H Q => t2I ta tb (fun i j H2 => Q (.int (i - j)) H2) σ H
/-- the left factor below 2^64 -/
def tMul (ta tb : TE) : TE := fun σ H Q => t2I ta tb (fun i j H2 => (-(2 ^ 64) < i ∧ i < 2 ^ 64) ∧ Q (.int (i * j)) H2) σ H
variable {a b : Expr} {ta tb : TE} {pos : Pos}
theorem pe_add (ha : PE X a ta) (hb : PE X b tb) : PE X (.BinOp a .Add b pos) (tAdd ta tb) := by
  intro pins s σ H Q I h
  refine wpAny_BinOp (bin ha hb I h fun v u s2 x y H2 I2 rx ry q => ?_)
  obtain ⟨i, j, rfl, rfl, q⟩ := q
  obtain ⟨t, rfl⟩ := rx
  obtain ⟨t', rfl⟩ := ry
  exact add_int ⟨.int _, H2, I2.tok _, ⟨_, rfl⟩, q⟩
theorem pe_sub (ha : PE X a ta) (hb : PE X b tb) : PE X (.BinOp a .Sub b pos) (tSub ta tb) := by
  intro pins s σ H Q I h
  refine wpAny_BinOp (bin ha hb I h fun v u s2 x y H2 I2 rx ry q => ?_)
  obtain ⟨i, j, rfl, rfl, q⟩ := q
  obtain ⟨t, rfl⟩ := rx
  obtain ⟨t', rfl⟩ := ry
  exact sub_int ⟨.int _, H2, I2.tok _, ⟨_, rfl⟩, q⟩
theorem pe_mul (ha : PE X a ta) (hb : PE X b tb) : PE X (.BinOp a .Mult b pos) (tMul ta tb) := by
  intro pins s σ H Q I h
  refine wpAny_BinOp (bin ha hb I h fun v u s2 x y H2 I2 rx ry q => ?_)
  obtain ⟨i, j, rfl, rfl, ⟨q1, q2⟩, q⟩ := q
  obtain ⟨t, rfl⟩ := rx
  obtain ⟨t', rfl⟩ := ry
  exact mul_int ⟨.int _, H2, I2.tok _, ⟨_, rfl⟩, q⟩ (.of_left (intBits_le_64 q1 q2))

/-! ### comparisons -/
def PC (X : Cx) (op : CmpOp) (a b : Expr) (t : TE) : Prop :=
  ∀ (pins : List (Addr × Obj)) (s : Shared) (σ : St) (H : Hp) (Q : VK), Inv X pins σ H s → t σ H Q →
    wpAny (model X.prog X.w) X.A (eval a X.env) (fun v s₁ => wpAny (model X.prog X.w) X.A (eval b X.env) (fun u s₂ => wpAny (model X.prog X.w) X.A (compareOp op v u) (EP X pins σ Q) X.xe s₂) X.xe s₁) X.xe s
theorem nobehind (b : Expr) {op : CmpOp} (h : op ≠ .In) (h2 : op ≠ .NotIn) : behindInMarks op b = false := by
  have e1 : (op == CmpOp.In) = false := by cases op <;> first | rfl | exact absurd rfl h
  have e2 : (op == CmpOp.NotIn) = false := by cases op <;> first | rfl | exact absurd rfl h2
  cases b <;> simp [behindInMarks, e1, e2]
def tCmp (p : Int → Int → Bool) (ta tb : TE) : TE := fun σ H Q => t2I ta tb (fun i j H2 => Q (.bl (p i j)) H2) σ H
abbrev tLt : TE → TE → TE := tCmp fun i j => decide (i < j)
abbrev tLe : TE → TE → TE := tCmp fun i j => decide (i ≤ j)
abbrev tGt : TE → TE → TE := tCmp fun i j => decide (j < i)
abbrev tGe : TE → TE → TE := tCmp fun i j => decide (j ≤ i)
abbrev tEqI : TE → TE → TE := tCmp fun i j => decide (i = j)
abbrev tNeI : TE → TE → TE := tCmp fun i j => !decide (i = j)
/-- a comparison of two ints, by its rule -/
theorem pc_int {op : CmpOp} {p : Int → Int → Bool} (ha : PE X a ta) (hb : PE X b tb)
    (rule : ∀ (i j : Int) (t u : Tok) (Q : Value → Shared → Prop) (s : Shared), Q (.bool (p i j)) s → wpAny (model X.prog X.w) X.A (compareOp op (.int i t) (.int j u)) Q X.xe s) : PC X op a b (tCmp p ta tb) := by
  intro pins s σ H Q I h
  refine bin ha hb I h fun v u s2 x y H2 I2 rx ry q => ?_
  obtain ⟨i, j, rfl, rfl, q⟩ := q
  obtain ⟨t, rfl⟩ := rx
  obtain ⟨t', rfl⟩ := ry
  exact rule i j t t' _ s2 ⟨.bl _, H2, I2, rfl, q⟩
theorem pc_lt (ha : PE X a ta) (hb : PE X b tb) : PC X .Lt a b (tLt ta tb) := pc_int ha hb fun _ _ _ _ _ _ h => lt_int h
theorem pc_le (ha : PE X a ta) (hb : PE X b tb) : PC X .LtE a b (tLe ta tb) := pc_int ha hb fun _ _ _ _ _ _ h => le_int h
theorem pc_gt (ha : PE X a ta) (hb : PE X b tb) : PC X .Gt a b (tGt ta tb) := pc_int ha hb fun _ _ _ _ _ _ h => gt_int h
theorem pc_ge (ha : PE X a ta) (hb : PE X b tb) : PC X .GtE a b (tGe ta tb) := pc_int ha hb fun _ _ _ _ _ _ h => ge_int h
theorem pc_eqI (ha : PE X a ta) (hb : PE X b tb) : PC X .Eq a b (tEqI ta tb) := pc_int ha hb fun _ _ _ _ _ _ h => eq_int (by rw [Bool.beq_eq_decide_eq]; exact h)
theorem pc_neI (ha : PE X a ta) (hb : PE X b tb) : PC X .NotEq a b (tNeI ta tb) := pc_int ha hb fun _ _ _ _ _ _ h => ne_int (by rw [bne, Bool.beq_eq_decide_eq]; exact h)
/-- is None -/
def tIsN (ta : TE) : TE := fun σ H Q => ta σ H fun x H1 => Q (.bl (decide (x = .non))) H1
def tNotN (ta : TE) : TE := fun σ H Q => ta σ H fun x H1 => Q (.bl (!decide (x = .non))) H1
theorem RelV.none_iff {x : V} {v : Value} (r : RelV x v) : (v == Value.none) = decide (x = .non) := by
  cases x with
  | non => cases r; rfl
  | bl _ => cases r; rfl
  | int _ => obtain ⟨t, rfl⟩ := r; rfl
  | str _ => obtain ⟨t, rfl⟩ := r; rfl
  | byt _ => obtain ⟨t, rfl⟩ := r; rfl
  | flt _ => obtain ⟨t, rfl⟩ := r; rfl
  | ref _ => cases r; rfl
  | ty _ => cases r; rfl
theorem pc_isN {j pos'} (ha : PE X a ta) : PC X .Is a (.Constant .none j pos') (tIsN ta) := by
  intro pins s σ H Q I h
  refine thn (ha pins s σ H _ I h) fun v s1 ⟨x, H1, I1, r1, q1⟩ => ?_
  exact Constant_none (is_none_gen ⟨.bl _, H1, I1, by rw [r1.none_iff]; rfl, q1⟩)
theorem pc_notN {j pos'} (ha : PE X a ta) : PC X .IsNot a (.Constant .none j pos') (tNotN ta) := by
  intro pins s σ H Q I h
  refine thn (ha pins s σ H _ I h) fun v s1 ⟨x, H1, I1, r1, q1⟩ => ?_
  exact Constant_none (isnot_none_gen ⟨.bl _, H1, I1, by rw [r1.none_iff]; rfl, q1⟩)
/-- a comparison as a value, as a test -/
def tB (t : TE) : TT := fun σ H Q => t σ H fun x H1 => ∃ c, x = .bl c ∧ Q c H1
theorem pe_cmp {op : CmpOp} {t : TE} (h : PC X op a b t) (h1 : behindInMarks op b = false := by first | exact nobehind _ (by decide) (by decide) | rfl) : PE X (.Compare a [op] [b] pos) t := fun pins s σ H Q I hw => wpAny_Compare1 (h pins s σ H Q I hw) h1
theorem pt_cmp {op : CmpOp} {t : TE} (h : PC X op a b t) (h1 : behindInMarks op b = false := by first | exact nobehind _ (by decide) (by decide) | rfl) : PT X (.Compare a [op] [b] pos) (tB t) := by
  intro pins s σ H Q I hw
  refine wpAny_isTrue_Compare1 (thn (h pins s σ H _ I hw) fun v s1 h1 => thn h1 fun u s2 h2 => thn h2 fun c s3 ⟨x, H1, I1, r1, q1⟩ => ?_) h1
  obtain ⟨d, rfl, q⟩ := q1
  cases r1
  exact wpAny_truthy_bool ⟨H1, I1, q⟩
/-- an expression whose value is a bool, as a test -/
theorem pt_val {e : Expr} {t : TE} (h : PE X e t) (he : ∀ whole, isTrue e X.env whole = (do let v ← whole; standAt e.pos; holding [v] (truthy v)) := by intro _; rfl) : PT X e (tB t) := by
  intro pins s σ H Q I hw
  refine isTrue_plain (thn (h pins s σ H _ I hw) fun v s1 ⟨x, H1, I1, r1, q1⟩ => ?_) (he _)
  obtain ⟨d, rfl, q⟩ := q1
  cases r1
  exact wpAny_truthy_bool ⟨H1, I1, q⟩

/-! ### and, or, not -/
variable {tA tB' : TT} {rest : List Expr}
def tAnd (t u : TT) : TT := fun σ H Q => t σ H fun c H1 => if c = true then u σ H1 Q else Q false H1
def tOr (t u : TT) : TT := fun σ H Q => t σ H fun c H1 => if c = true then Q true H1 else u σ H1 Q
def tNot (t : TT) : TT := fun σ H Q => t σ H fun c H1 => Q (!c) H1
theorem pw_and1 (ha : PT X a tA) : PW X (.BoolOp .And [a] pos) tA := by
  intro wh pins s σ H Q I h
  refine isTrue_and (thn (ha pins s σ H Q I h) fun c s1 e => ?_)
  cases c with
  | true => exact isTrue_and_nil e
  | false => exact e
theorem pw_or1 (ha : PT X a tA) : PW X (.BoolOp .Or [a] pos) tA := by
  intro wh pins s σ H Q I h
  refine isTrue_or (thn (ha pins s σ H Q I h) fun c s1 e => ?_)
  cases c with
  | false => exact isTrue_or_nil e
  | true => exact e
theorem pw_and (ha : PT X a tA) (hb : PW X (.BoolOp .And (b :: rest) pos) tB') : PW X (.BoolOp .And (a :: b :: rest) pos) (tAnd tA tB') := by
  intro wh pins s σ H Q I h
  refine isTrue_and (thn (ha pins s σ H _ I h) fun c s1 ⟨H1, I1, q1⟩ => ?_)
  cases c with
  | true => exact hb wh pins s1 σ H1 Q I1 q1
  | false => exact ⟨H1, I1, q1⟩
theorem pw_or (ha : PT X a tA) (hb : PW X (.BoolOp .Or (b :: rest) pos) tB') : PW X (.BoolOp .Or (a :: b :: rest) pos) (tOr tA tB') := by
  intro wh pins s σ H Q I h
  refine isTrue_or (thn (ha pins s σ H _ I h) fun c s1 ⟨H1, I1, q1⟩ => ?_)
  cases c with
  | true => exact ⟨H1, I1, q1⟩
  | false => exact hb wh pins s1 σ H1 Q I1 q1
theorem pt_not (ha : PT X a tA) : PT X (.UnaryOp .Not a pos) (tNot tA) := by
  intro pins s σ H Q I h
  exact isTrue_not (ha pins s σ H (fun c H1 => Q (!c) H1) I h)
/-- .. as values (bools) -/
def tAndV (ta tb : TE) : TE := fun σ H Q => ta σ H fun x H1 => ∃ c, x = .bl c ∧ if c = true then tb σ H1 Q else Q (.bl false) H1
def tOrV (ta tb : TE) : TE := fun σ H Q => ta σ H fun x H1 => ∃ c, x = .bl c ∧ if c = true then Q (.bl true) H1 else tb σ H1 Q
def tNotV (ta : TE) : TE := fun σ H Q => ta σ H fun x H1 => ∃ c, x = .bl c ∧ Q (.bl (!c)) H1
theorem pe_one {op} {t : TE} (h : PE X a t) : PE X (.BoolOp op [a] pos) t := fun pins s σ H Q I hw => BoolOp_one (h pins s σ H Q I hw)
theorem pe_and (ha : PE X a ta) (hb : PE X (.BoolOp .And (b :: rest) pos) tb) : PE X (.BoolOp .And (a :: b :: rest) pos) (tAndV ta tb) := by
  intro pins s σ H Q I h
  refine BoolOp_and (thn (ha pins s σ H _ I h) fun v s1 ⟨x, H1, I1, r1, q1⟩ => ?_)
  obtain ⟨c, rfl, q1⟩ := q1
  cases r1
  refine wpAny_truthy_bool ?_
  cases c with
  | true => exact hb pins s1 σ H1 Q I1 q1
  | false => exact ⟨.bl false, H1, I1, rfl, q1⟩
theorem pe_or (ha : PE X a ta) (hb : PE X (.BoolOp .Or (b :: rest) pos) tb) : PE X (.BoolOp .Or (a :: b :: rest) pos) (tOrV ta tb) := by
  intro pins s σ H Q I h
  refine BoolOp_or (thn (ha pins s σ H _ I h) fun v s1 ⟨x, H1, I1, r1, q1⟩ => ?_)
  obtain ⟨c, rfl, q1⟩ := q1
  cases r1
  refine wpAny_truthy_bool ?_
  cases c with
  | false => exact hb pins s1 σ H1 Q I1 q1
  | true => exact ⟨.bl true, H1, I1, rfl, q1⟩
theorem pe_not (ha : PE X a ta) : PE X (.UnaryOp .Not a pos) (tNotV ta) := by
  intro pins s σ H Q I h
  refine UnaryOp_ (thn (ha pins s σ H _ I h) fun v s1 ⟨x, H1, I1, r1, q1⟩ => ?_)
  obtain ⟨c, rfl, q1⟩ := q1
  cases r1
  exact not_of (wpAny_truthy_bool ⟨.bl (!c), H1, I1, rfl, q1⟩)
/-- a if t else b -/
def tIf (t : TT) (ta tb : TE) : TE := fun σ H Q => t σ H fun c H1 => if c = true then ta σ H1 Q else tb σ H1 Q
theorem pe_ifExp {c : Expr} (hc : PT X c tA) (ha : PE X a ta) (hb : PE X b tb) : PE X (.IfExp c a b pos) (tIf tA ta tb) := by
  intro pins s σ H Q I h
  refine wpAny_IfExp (thn (hc pins s σ H _ I h) fun d s1 ⟨H1, I1, q1⟩ => ?_)
  cases d with
  | true => exact ha pins s1 σ H1 Q I1 q1
  | false => exact hb pins s1 σ H1 Q I1 q1
end
end L2

namespace L2
open PySem PySem.Spec PyProof.Rows

/-! ### a list, a tuple that is read: tracked, frozen, or an object of the module -/
def SqL (K : PySem.W.Frag) (H : Hp) (a : Addr) (xs : List V) : Prop :=
  Rd H a (.lst xs) ∨
    ∃ (o : Obj) (its : Array Value) (n : Nat), K.lookup a = some o ∧ o.cls = .type "list" ∧ o.dict = none ∧ o.data = .seq its n ∧ its.size ≤ sizeLine ∧ Vals xs its.toList
def SqT (K : PySem.W.Frag) (H : Hp) (a : Addr) (xs : List V) : Prop :=
  Rd H a (.tup xs) ∨
    ∃ (o : Obj) (its : Array Value) (n : Nat), K.lookup a = some o ∧ o.cls = .type "tuple" ∧ o.data = .seq its n ∧ its.size ≤ sizeLine ∧ Vals xs its.toList
def absV : Value → Option V
  | .none => some .non
  | .bool b => some (.bl b)
  | .int i _ => some (.int i)
  | .str x _ => some (.str x)
  | .bytes b _ => some (.byt b)
  | .float b _ => some (.flt b)
  | .ref a => some (.ref a)
  | .type n => some (.ty n)
  | _ => none
theorem RelV.abs {x : V} {u : Value} (r : RelV x u) : absV u = some x := by
  cases x with
  | non => cases r; rfl
  | bl _ => cases r; rfl
  | int _ => obtain ⟨t, rfl⟩ := r; rfl
  | str _ => obtain ⟨t, rfl⟩ := r; rfl
  | byt _ => obtain ⟨t, rfl⟩ := r; rfl
  | flt _ => obtain ⟨t, rfl⟩ := r; rfl
  | ref _ => cases r; rfl
  | ty _ => cases r; rfl
theorem RelV.inj {x y : V} {u : Value} (r : RelV x u) (q : RelV y u) : x = y := Option.some.inj (r.abs.symm.trans q.abs)
theorem Vals.inj : ∀ {xs ys : List V} {us : List Value}, Vals xs us → Vals ys us → xs = ys
  | _, _, _, .nil, .nil => rfl
  | _, _, _, .cons r t, .cons r' t' => by rw [r.inj r', Vals.inj t t']
section
variable {X : Cx} {pins : List (Addr × Obj)} {σ : St} {H : Hp} {s : Shared} {a : Addr} {xs ys : List V}
theorem SqL.of {K : PySem.W.Frag} (h : H a = some (.lst xs)) : SqL K H a xs := .inl (.inl h)
theorem SqT.of {K : PySem.W.Frag} (h : H a = some (.tup xs)) : SqT K H a xs := .inl (.inl h)
theorem Inv.list (I : Inv X pins σ H s) (h : SqL X.K H a xs) : ∃ its : List Value, Vals xs its ∧ PlainL s.heap a its.toArray ∧ xs.length ≤ sizeLine := by
  rcases h with h | ⟨o, its, n, hk, hc, hd, hs, hz, r⟩
  · obtain ⟨z, its, n, r, e⟩ := h.ok I.hok
    exact ⟨its, r, ⟨_, n, e, rfl, rfl, rfl⟩, z⟩
  · refine ⟨its.toList, r, ⟨o, n, I.kIn a o hk, hc, hd, by simpa using hs⟩, ?_⟩
    have e := r.length
    simp only [Array.length_toList] at e
    omega
theorem Inv.tuple (I : Inv X pins σ H s) (h : SqT X.K H a xs) : ∃ its : List Value, Vals xs its ∧ IsTup s.heap a its.toArray ∧ xs.length ≤ sizeLine := by
  rcases h with h | ⟨o, its, n, hk, hc, hs, hz, r⟩
  · obtain ⟨z, its, r, p⟩ := h.ok I.hok
    exact ⟨its, r, p, z⟩
  · refine ⟨its.toList, r, ⟨o, I.kIn a o hk, hc, n, by simpa using hs⟩, ?_⟩
    have e := r.length
    simp only [Array.length_toList] at e
    omega
theorem Inv.list_inj (I : Inv X pins σ H s) (h : SqL X.K H a xs) (h' : SqL X.K H a ys) : xs = ys := by
  obtain ⟨its, r, ⟨o, n, e, _, _, d⟩, _⟩ := I.list h
  obtain ⟨its', r', ⟨o', n', e', _, _, d'⟩, _⟩ := I.list h'
  rw [e] at e'; cases e'
  rw [d] at d'
  injection d' with d1 _
  have : its = its' := by simpa using congrArg Array.toList d1
  subst this
  exact r.inj r'
theorem Inv.tuple_inj (I : Inv X pins σ H s) (h : SqT X.K H a xs) (h' : SqT X.K H a ys) : xs = ys := by
  obtain ⟨its, r, ⟨o, e, _, n, d⟩, _⟩ := I.tuple h
  obtain ⟨its', r', ⟨o', e', _, n', d'⟩, _⟩ := I.tuple h'
  rw [e] at e'; cases e'
  rw [d] at d'
  injection d' with d1 _
  have : its = its' := by simpa using congrArg Array.toList d1
  subst this
  exact r.inj r'
end

/-! ### another wish about exceptions -/
abbrev Cx.wish (X : Cx) (E : Value → Shared → Prop) : Cx := { X with xe := E }
/-- no exception leaves -/
abbrev Cx.nox (X : Cx) : Cx := X.wish fun _ _ => False
theorem Cx.Ok.wish {X : Cx} (ok : X.Ok) (E : Value → Shared → Prop) : (X.wish E).Ok :=
  ⟨ok.mod, ok.kind, ok.glob, ok.blt, ok.above, ok.inj, ok.has, ok.cab, ok.hd, ok.frames, ok.stk, ok.exf, ok.bs, ok.bsz, ok.noex, ok.exfs, ok.funs, ok.frf⟩
theorem Cx.Ok.unwish {X : Cx} {E : Value → Shared → Prop} (ok : (X.wish E).Ok) : X.Ok :=
  ⟨ok.mod, ok.kind, ok.glob, ok.blt, ok.above, ok.inj, ok.has, ok.cab, ok.hd, ok.frames, ok.stk, ok.exf, ok.bs, ok.bsz, ok.noex, ok.exfs, ok.funs, ok.frf⟩
section
variable {X : Cx} {pins : List (Addr × Obj)} {σ : St} {H : Hp} {s : Shared} {E : Value → Shared → Prop}
theorem Inv.wish (I : Inv X pins σ H s) (E : Value → Shared → Prop) : Inv (X.wish E) pins σ H s := ⟨I.ok.wish E, I.os, I.bare, I.base, I.loc, I.cell, I.free, I.freeC, I.pin, I.hok, I.len⟩
theorem Inv.unwish (I : Inv (X.wish E) pins σ H s) : Inv X pins σ H s := ⟨I.ok.unwish, I.os, I.bare, I.base, I.loc, I.cell, I.free, I.freeC, I.pin, I.hok, I.len⟩
theorem SP.unwish {D : Ends} {f : Flow} {s' : Shared} (h : SP (X.wish E) pins D f s') : SP X pins D f s' := by
  cases f with
  | next => obtain ⟨σ', H', I, q⟩ := h; exact ⟨σ', H', I.unwish, q⟩
  | brk => obtain ⟨σ', H', I, q⟩ := h; exact ⟨σ', H', I.unwish, q⟩
  | cont => obtain ⟨σ', H', I, q⟩ := h; exact ⟨σ', H', I.unwish, q⟩
  | ret u => obtain ⟨v, σ', H', I, r, q⟩ := h; exact ⟨v, σ', H', I.unwish, r, q⟩
theorem PE.nox {e : Expr} {t : TE} (h : PE X.nox e t) : PE X e t := fun pins s σ H Q I hw =>
  wpAny_mono (h pins s σ H Q (I.wish _) hw) (fun _ _ ⟨v, H', I', r, q⟩ => ⟨v, H', I'.unwish, r, q⟩) fun _ _ z => False.elim z
theorem PT.nox {e : Expr} {t : TT} (h : PT X.nox e t) : PT X e t := fun pins s σ H Q I hw =>
  wpAny_mono (h pins s σ H Q (I.wish _) hw) (fun _ _ ⟨H', I', q⟩ => ⟨H', I'.unwish, q⟩) fun _ _ z => False.elim z
theorem PSs.nox {st : List Stmt} {t : TS} (h : PSs X.nox st t) : PSs X st t := fun pins s σ H D I hw =>
  wpAny_mono (h pins s σ H D (I.wish _) hw) (fun _ _ q => q.unwish) fun _ _ z => False.elim z
end

/-! ### blocks and small statements -/
section
variable {X : Cx} {st : Stmt} {rest : List Stmt} {t u : TS} {e : Expr} {te : TE} {pos : Pos}
def tNext : TS := fun D σ H => D.nx σ H
def tSeq (t u : TS) : TS := fun D σ H => t { D with nx := u D } σ H
theorem pss_nil : PSs X [] tNext := fun _ _ σ H _ I h => wpAny_execs_nil ⟨σ, H, I, h⟩
theorem pss_cons (h1 : PS X st t) (h2 : PSs X rest u) : PSs X (st :: rest) (tSeq t u) := by
  intro pins s σ H D I h
  refine wpAny_execs_cons (thn (h1 pins s σ H { D with nx := u D } I h) fun f s1 q => ?_)
  cases f with
  | next =>
    obtain ⟨σ', H', I', q⟩ := q
    exact h2 pins s1 σ' H' D I' q
  | ret v => exact q
  | brk => exact q
  | cont => exact q
theorem pss_one (h1 : PS X st t) : PSs X [st] t := by
  intro pins s σ H D I h
  refine wpAny_execs_cons (thn (h1 pins s σ H D I h) fun f s1 q => ?_)
  cases f with
  | next => exact wpAny_execs_nil q
  | ret v => exact q
  | brk => exact q
  | cont => exact q
def tBreak : TS := fun D σ H => D.bk σ H
def tCont : TS := fun D σ H => D.ct σ H
theorem ps_pass : PS X (.Pass pos) tNext := fun _ _ σ H _ I h => wpAny_Pass ⟨σ, H, I, h⟩
theorem ps_break : PS X (.Break pos) tBreak := fun _ _ σ H _ I h => wpAny_Break ⟨σ, H, I, h⟩
theorem ps_continue : PS X (.Continue pos) tCont := fun _ _ σ H _ I h => wpAny_Continue ⟨σ, H, I, h⟩
/-- in a def's body nothing is shown -/
theorem Inv.quiet {pins : List (Addr × Obj)} {σ : St} {H : Hp} {s : Shared} (I : Inv X pins σ H s) : interactive X.env = false := by simp [interactive, I.ok.kind]
/-- a docstring -/
theorem ps_doc {x j pos pos'} : PS X (.Expr (.Constant (.str x) j pos) pos') tNext := fun _ s σ H _ I h => wpAny_Expr (Calls.Constant_str (show SP X _ _ .next { s with toks := s.toks + 1 } from ⟨σ, H, I.tok _, h⟩)) I.quiet
/-- an expression whose value is dropped -/
def tDrop (te : TE) : TS := fun D σ H => te σ H fun _ H1 => D.nx σ H1
theorem ps_expr (he : PE X e te) (hs : swapsWith e none pos.line X.env = pure false := by rfl) : PS X (.Expr e pos) (tDrop te) := by
  intro pins s σ H D I h
  exact wpAny_Expr_any (thn (he pins s σ H _ I h) fun v s1 ⟨x, H1, I1, r1, q1⟩ => ⟨σ, H1, I1, q1⟩) I.quiet hs
def tRet (te : TE) : TS := fun D σ H => te σ H D.rt
theorem ps_ret (he : PE X e te) : PS X (.Return (some e) pos) (tRet te) := by
  intro pins s σ H D I h
  exact wpAny_Return_some (thn (he pins s σ H _ I h) fun v s1 ⟨x, H1, I1, r1, q1⟩ => ⟨x, σ, H1, I1, r1, q1⟩)
def tRetN : TS := fun D _ H => D.rt .non H
theorem ps_retN : PS X (.Return none pos) tRetN := fun _ _ σ H _ I h => wpAny_Return_none ⟨.non, σ, H, I, rfl, h⟩
def tIfS (c : TT) (t u : TS) : TS := fun D σ H => c σ H fun b H1 => if b = true then t D σ H1 else u D σ H1
theorem ps_if {c : Expr} {a b : List Stmt} {tc : TT} (hc : PT X c tc) (ha : PSs X a t) (hb : PSs X b u) : PS X (.If c a b pos) (tIfS tc t u) := by
  intro pins s σ H D I h
  refine wpAny_If (thn (hc pins s σ H _ I h) fun d s1 ⟨H1, I1, q1⟩ => ?_)
  cases d with
  | true => exact ha pins s1 σ H1 D I1 q1
  | false => exact hb pins s1 σ H1 D I1 q1
/-- code that the proof never comes to -/
def tNever : TS := fun _ _ _ => False
theorem ps_never : PS X st tNever := fun _ _ _ _ _ _ h => h.elim
theorem pss_never {sts : List Stmt} : PSs X sts tNever := fun _ _ _ _ _ _ h => h.elim
end

/-! ### targets -/
abbrev TG := V → St → Hp → (St → Hp → Prop) → Prop
abbrev TGs := List V → St → Hp → (St → Hp → Prop) → Prop
def PG (X : Cx) (target : Expr) (t : TG) : Prop :=
  ∀ (pins : List (Addr × Obj)) (s : Shared) (σ : St) (H : Hp) (v : V) (u : Value) (Q : St → Hp → Prop), Inv X pins σ H s → RelV v u → t v σ H Q →
    wpAny (model X.prog X.w) X.A (assign target X.env u) (fun _ s' => ∃ σ' H', Inv X pins σ' H' s' ∧ Q σ' H') X.xe s
/-- several targets, one after another -/
def PGs (X : Cx) (ts : List Expr) (t : TGs) : Prop :=
  ∀ (pins : List (Addr × Obj)) (s : Shared) (σ : St) (H : Hp) (vs : List V) (us : List Value) (Q : St → Hp → Prop), Inv X pins σ H s → Vals vs us → t vs σ H Q →
    wpAny (model X.prog X.w) X.A (assignInOrder ((assignEach ts X.env).map (·.2)) us) (fun _ s' => ∃ σ' H', Inv X pins σ' H' s' ∧ Q σ' H') X.xe s
/-- o[i] = v, by values -/
abbrev TSet := V → V → V → Hp → (Hp → Prop) → Prop
def PSet (X : Cx) (t : TSet) : Prop :=
  ∀ (pins : List (Addr × Obj)) (s : Shared) (σ : St) (H : Hp) (o i v : V) (ov iv u : Value) (Q : Hp → Prop), Inv X pins σ H s → RelV o ov → RelV i iv → RelV v u → t o i v H Q →
    wpAny (model X.prog X.w) X.A (setItem ov iv u) (fun _ s' => ∃ H', Inv X pins σ H' s' ∧ Q H') X.xe s
/-- a op= b, by values -/
abbrev TIp := V → V → Hp → VK → Prop
def PIp (X : Cx) (op : Operator) (t : TIp) : Prop :=
  ∀ (pins : List (Addr × Obj)) (s : Shared) (σ : St) (H : Hp) (x y : V) (v u : Value) (Q : VK), Inv X pins σ H s → RelV x v → RelV y u → t x y H Q →
    wpAny (model X.prog X.w) X.A (inplaceOp op v u) (EP X pins σ Q) X.xe s
section
variable {X : Cx} {pos : Pos}
def gName (i : Nat) : TG := fun v σ H Q => Q (σ.set i (some v)) H
theorem pg_name {i : Nat} {x : Str} (hN : X.N.Nodup) (hi : X.N[i]? = some x) (hx : Loc X.env.scope x) (hf : X.fn x = true ∨ X.env.scope.names.lookup x = some .local := by first | exact .inl rfl | exact .inr rfl | assumption) : PG X (.Name x pos) (gName i) := by
  intro pins s σ H v u Q I r h
  exact wpAny_assign_Name (store_ok I hN hi hx r (fun s' I' => ⟨_, H, I', h⟩) hf)
def gNil : TGs := fun vs σ H Q => vs = [] ∧ Q σ H
def gCons (t : TG) (u : TGs) : TGs := fun vs σ H Q => ∃ v r, vs = v :: r ∧ t v σ H fun σ' H' => u r σ' H' Q
theorem pgs_nil : PGs X [] gNil := by
  intro pins s σ H vs us Q I r h
  obtain ⟨e, h⟩ := h
  subst e
  cases r
  exact assignInOrder_nil ⟨σ, H, I, h⟩
theorem pgs_cons {e : Expr} {es : List Expr} {t : TG} {u : TGs} (h1 : PG X e t) (h2 : PGs X es u)
    (hs : (assignEach (e :: es) X.env).map (·.2) = assign e X.env :: (assignEach es X.env).map (·.2) := by rfl) : PGs X (e :: es) (gCons t u) := by
  intro pins s σ H vs us Q I r h
  obtain ⟨v, vr, e1, h⟩ := h
  subst e1
  cases r with
  | cons r rr =>
    rw [hs]
    refine assignInOrder_cons (thn (h1 pins s σ H _ _ _ I r h) fun _ s1 ⟨σ1, H1, I1, q1⟩ => ?_)
    exact h2 pins s1 σ1 H1 _ _ Q I1 rr q1
/-- (a, b, ..) = a tuple of that length -/
def gTup (K : PySem.W.Frag) (n : Nat) (t : TGs) : TG := fun v σ H Q => ∃ a xs, v = .ref a ∧ SqT K H a xs ∧ xs.length = n ∧ t xs σ H Q
theorem pg_tup {es : List Expr} {k : Nat} {t : TGs} {n : Nat} (hc : X.calm = true) (h : PGs X es t)
    (hn : (assignEach es X.env).length = n := by rfl) (hst : (assignEach es X.env).findIdx? (·.1) = none := by rfl) : PG X (.Tuple es k pos) (gTup X.K n t) := by
  intro pins s σ H v u Q I r hw
  obtain ⟨a, xs, e1, hq, hl, hw⟩ := hw
  subst e1
  cases r
  obtain ⟨its, rv, ht, hz⟩ := I.tuple hq
  refine assign_Tuple_tuple (I.ok.hd hc) ht (by simp [hn, ← hl, rv.length]) hst fun h' hx => ?_
  have I1 : Inv X pins σ H { s with heap := h' } := I.kept (t' := s.toks) fun b o e => hx b o (Nat.ne_of_lt (Heap.lt_size e)) e
  exact h pins _ σ H xs _ Q I1 (by simpa using rv) hw
/-- o[i] = .. -/
def gSub (to ti : TE) (t : TSet) : TG := fun v σ H Q => to σ H fun o H1 => ti σ H1 fun i H2 => t o i v H2 fun H3 => Q σ H3
theorem pg_sub {o i : Expr} {to ti : TE} {t : TSet} (ho : PE X o to) (hi : PE X i ti) (hs : PSet X t)
    (ha : ∀ v, assign (.Subscript o i pos) X.env v = (do
      let ov ← holding [v] (eval o X.env)
      let iv ← holding [v, ov] (eval i X.env)
      standAt pos
      holding [v, ov, iv] (setItem ov iv v)
      release [v, ov, iv] []) := by intro _; rfl) : PG X (.Subscript o i pos) (gSub to ti t) := by
  intro pins s σ H v u Q I r h
  rw [ha]
  refine wpAny_bind (wpAny_holding (thn (ho pins s σ H _ I h) fun ov s1 ⟨x, H1, I1, r1, q1⟩ => ?_))
  refine wpAny_bind (wpAny_holding (thn (hi pins s1 σ H1 _ I1 q1) fun iv s2 ⟨y, H2, I2, r2, q2⟩ => ?_))
  refine wpAny_bind (wpAny_standAt (wpAny_bind (wpAny_holding (thn (hs pins s2 σ H2 x y v ov iv u _ I2 r1 r2 r q2) fun _ s3 ⟨H3, I3, q3⟩ => ?_))))
  exact wpAny_release ⟨σ, H3, I3, q3⟩
/-- target = value -/
def tAsg (te : TE) (g : TG) : TS := fun D σ H => te σ H fun x H1 => g x σ H1 D.nx
theorem ps_asg {tg e : Expr} {te : TE} {g : TG} (he : PE X e te) (hg : PG X tg g) (hs : swapsWithSole [tg] e pos.line X.env = pure false := by rfl) (hw : swappedStores [tg] e X.env = pure none := by rfl)
    (h1 : (assignEach [tg] X.env).map (·.2) = [assign tg X.env] := by rfl) : PS X (.Assign [tg] e pos) (tAsg te g) := by
  intro pins s σ H D I h
  refine wpAny_Assign_stores (thn (he pins s σ H _ I h) fun v s1 ⟨x, H1, I1, r1, q1⟩ => ?_) hs hw
  rw [h1]
  exact thn (hg pins s1 σ H1 x v _ I1 r1 q1) fun _ s2 q => q
/-- name = value -/
theorem ps_set {i : Nat} {x : Str} {e : Expr} {te : TE} {pos' : Pos} (hN : X.N.Nodup) (hi : X.N[i]? = some x) (hx : Loc X.env.scope x) (he : PE X e te) (hs : swapsWith e (some (.Name x pos')) pos.line X.env = pure false := by rfl) (hf : X.fn x = true ∨ X.env.scope.names.lookup x = some .local := by first | exact .inl rfl | exact .inr rfl | assumption) :
    PS X (.Assign [.Name x pos'] e pos) (tAsg te (gName i)) := by
  intro pins s σ H D I h
  refine wpAny_Assign_Name (thn (he pins s σ H _ I h) fun v s1 ⟨y, H1, I1, r1, q1⟩ => ?_) hs
  exact store_ok I1 hN hi hx r1 (fun s2 I2 => ⟨_, H1, I2, q1⟩) hf
/-- a, b = x, y with plain local names: stored from the right; the pair itself is not tracked (the opening rows as in PyProof/Rows/TupAssign.lean:23) -/
def tPar (i j : Nat) (ta : TA) : TS := fun D σ H => ta σ H fun vs H1 => ∃ v w, vs = [v, w] ∧ D.nx ((σ.set i (some v)).set j (some w)) H1
theorem ps_par {i j : Nat} {x y : Str} {a b : Expr} {ta : TA} {px py pt : Pos} {kt k2 pt2} (hc : X.calm = true) (hN : X.N.Nodup) (hi : X.N[i]? = some x) (hj : X.N[j]? = some y) (hij : i ≠ j)
    (hx : X.env.scope.names.lookup x = some .local) (hy : X.env.scope.names.lookup y = some .local) (ha : PA X [a, b] ta)
    (hw : swappedStores [.Tuple [.Name x px, .Name y py] kt pt] (.Tuple [a, b] k2 pt2) X.env = pure (some [x, y]))
    (hs : swapsWithSole [.Tuple [.Name x px, .Name y py] kt pt] (.Tuple [a, b] k2 pt2) pos.line X.env = pure false := by rfl) :
    PS X (.Assign [.Tuple [.Name x px, .Name y py] kt pt] (.Tuple [a, b] k2 pt2) pos) (tPar i j ta) := by
  intro pins s σ H D I h
  rw [exec_Assign_arm]
  refine wpAny_bind (wpAny_standAt ?_)
  rw [hs]
  refine wpAny_bind (wpAny_pure ?_)
  rw [if_neg (by decide)]
  refine wpAny_bind (Tuple_ (thn (ha _ pins s σ H _ I h) fun us s1 ⟨vs, H1, I1, r1, q1⟩ => ?_))
  obtain ⟨v, w, e1, q1⟩ := q1
  subst e1
  obtain ⟨u1, u2, rfl, rv, rw'⟩ : ∃ u1 u2, us = [u1, u2] ∧ RelV v u1 ∧ RelV w u2 := by
    cases r1 with
    | cons p q =>
      cases q with
      | cons p' q' =>
        cases q'
        exact ⟨_, _, rfl, p, p'⟩
  refine wpAny_newObj_type ?_ (by show 2 ≤ sizeLine; decide)
  have I2 : Inv X pins σ H1 { s1 with heap := s1.heap.push { cls := .type "tuple", data := .seq [u1, u2].toArray } } := I1.kept (t' := s1.toks) fun b o e => Heap.get?_push_of_some _ e
  rw [hw]
  refine wpAny_bind (wpAny_pure ?_)
  show wpAny (model X.prog X.w) X.A (do rule "assign.swapped-stores"; let items ← unpackItems (.ref s1.heap.objs.size) 2 none; assignInOrder [fun v => bindName X.env y v, fun v => bindName X.env x v] items.reverse; pure Flow.next) _ _ _
  refine wpAny_bind (wpAny_rule (wpAny_bind (unpackItems_tuple (items := #[u1, u2]) (I.ok.hd hc) (IsTup.new s1.heap _) fun h' hx' => ?_)))
  have I3 := I2.kept (h' := h') (t' := s1.toks) fun b o e => hx' b o (Nat.ne_of_lt (Heap.lt_size e)) e
  show wpAny _ _ (assignInOrder [fun v => bindName X.env y v, fun v => bindName X.env x v] [u2, u1] >>= fun _ => pure Flow.next) _ _ _
  refine wpAny_bind (assignInOrder_cons (wpAny_bindName (store_ok I3 hN hj (.inl hy) rw' (fun s2 I4 => ?_) (.inr hy))))
  refine assignInOrder_cons (wpAny_bindName (store_ok I4 hN hi (.inl hx) rv (fun s3 I5 => assignInOrder_nil (wpAny_pure ?_)) (.inr hx)))
  rw [List.set_comm _ _ (Ne.symm hij)] at I5
  exact ⟨_, H1, I5, q1⟩
/-- name op= e -/
def tAug (i : Nat) (te : TE) (ti : TIp) : TS := fun D σ H => ∃ x, σ[i]? = some (some x) ∧ te σ H fun y H1 => ti x y H1 fun z H2 => D.nx (σ.set i (some z)) H2
theorem ps_aug {i : Nat} {x : Str} {e : Expr} {te : TE} {op : Operator} {ti : TIp} {pos' : Pos} (hN : X.N.Nodup) (hi : X.N[i]? = some x) (hx : Loc X.env.scope x) (he : PE X e te) (ho : PIp X op ti) (hf : X.fn x = true ∨ X.env.scope.names.lookup x = some .local := by first | exact .inl rfl | exact .inr rfl | assumption) :
    PS X (.AugAssign (.Name x pos') op e pos) (tAug i te ti) := by
  intro pins s σ H D I h
  obtain ⟨v, e1, h⟩ := h
  obtain ⟨m, hn, hl⟩ := I.loc
  have vis : Vis X.env.scope x := by rcases hx with k | k; exact .inl k; exact .inr (.inl k)
  obtain ⟨u, r, l⟩ := hl i x v hi e1 vis
  refine wpAny_AugAssign_Name ?_
  have go : wpAny (model X.prog X.w) X.A (eval e X.env) (fun w s₂ => wpAny (model X.prog X.w) X.A (inplaceOp op u w) (fun r s₃ => wpAny (model X.prog X.w) X.A (storeName X.env x r) (fun _ => SP X pins D .next) X.xe s₃) X.xe s₂) X.xe s := by
    refine thn (he pins s σ H _ I h) fun w s1 ⟨y, H1, I1, r1, q1⟩ => ?_
    refine thn (ho pins s1 σ H1 v y u w _ I1 r r1 q1) fun z s2 ⟨zv, H2, I2, r2, q2⟩ => ?_
    exact store_ok I2 hN hi hx r2 (fun s3 I3 => ⟨_, H2, I3, q2⟩) hf
  rcases l with ⟨hk, hm⟩ | ⟨hk, c, hc, hcell⟩
  · exact wpAny_loadName_local I.ok.kind hk hn hm go
  · rcases hk with hk | hk
    · exact wpAny_loadName_cell I.ok.kind hk hc hcell go
    · rcases hx with k | k
      · have : X.env.scope.names.lookup x = some .free := hk
        rw [k] at this; cases this
      · have : X.env.scope.names.lookup x = some .free := hk
        rw [k] at this; cases this
/-- o[i] op= e -/
def tAugS (to ti te : TE) (tget : V → V → Hp → VK → Prop) (tip : TIp) (tset : TSet) : TS := fun D σ H => to σ H fun o H1 => ti σ H1 fun i H2 => tget o i H2 fun x H3 => te σ H3 fun y H4 => tip x y H4 fun z H5 => tset o i z H5 fun H6 => D.nx σ H6
/-- o[i], by values -/
def PGet (X : Cx) (t : V → V → Hp → VK → Prop) : Prop :=
  ∀ (pins : List (Addr × Obj)) (s : Shared) (σ : St) (H : Hp) (o i : V) (ov iv : Value) (Q : VK), Inv X pins σ H s → RelV o ov → RelV i iv → t o i H Q →
    wpAny (model X.prog X.w) X.A (getItem ov iv) (EP X pins σ Q) X.xe s
theorem ps_augS {o i e : Expr} {to ti te : TE} {tget : V → V → Hp → VK → Prop} {tip : TIp} {tset : TSet} {op : Operator} {tpos : Pos} (ho : PE X o to) (hi : PE X i ti) (hg : PGet X tget) (he : PE X e te) (hp : PIp X op tip) (hs : PSet X tset)
    (ha : ∀ ov iv new, augStore i ov iv new = (do holding [new, ov, iv] (setItem ov iv new); release [new, ov, iv] []; pure .next) := by intros; rfl) : PS X (.AugAssign (.Subscript o i tpos) op e pos) (tAugS to ti te tget tip tset) := by
  intro pins s σ H D I h
  refine wpAny_AugAssign_SubscriptAny (thn (ho pins s σ H _ I h) fun ov s1 ⟨x1, H1, I1, r1, q1⟩ => ?_) ha
  refine thn (hi pins s1 σ H1 _ I1 q1) fun iv s2 ⟨x2, H2, I2, r2, q2⟩ => ?_
  refine thn (hg pins s2 σ H2 x1 x2 ov iv _ I2 r1 r2 q2) fun old s3 ⟨x3, H3, I3, r3, q3⟩ => ?_
  refine thn (he pins s3 σ H3 _ I3 q3) fun v s4 ⟨x4, H4, I4, r4, q4⟩ => ?_
  refine thn (hp pins s4 σ H4 x3 x4 old v _ I4 r3 r4 q4) fun new s5 ⟨x5, H5, I5, r5, q5⟩ => ?_
  exact thn (hs pins s5 σ H5 x1 x2 x5 ov iv new _ I5 r1 r2 r5 q5) fun _ s6 ⟨H6, I6, q6⟩ => ⟨σ, H6, I6, q6⟩
/-- ints -/
def ipI (f : Int → Int → Int) : TIp := fun x y H Q => ∃ i j, x = .int i ∧ y = .int j ∧ Q (.int (f i j)) H
theorem ip_add : PIp X .Add (ipI fun i j => i + j) := by
  intro pins s σ H x y v u Q I r1 r2 h
  obtain ⟨i, j, e1, e2, q⟩ := h
  subst e1; subst e2
  obtain ⟨t, rfl⟩ := r1
  obtain ⟨t', rfl⟩ := r2
  exact iadd_int ⟨.int _, H, I.tok _, ⟨_, rfl⟩, q⟩
theorem ip_sub : PIp X .Sub (ipI fun i j => i - j) := by
  intro pins s σ H x y v u Q I r1 r2 h
  obtain ⟨i, j, e1, e2, q⟩ := h
  subst e1; subst e2
  obtain ⟨t, rfl⟩ := r1
  obtain ⟨t', rfl⟩ := r2
  exact isub_int ⟨.int _, H, I.tok _, ⟨_, rfl⟩, q⟩
end

/-! ### while -/
section
variable {X : Cx} {pos : Pos}
/-- the invariant W with its measure -/
def tWhile (c : TT) (tb : TS) : TS := fun D σ H => ∃ W : Nat → St → Hp → Prop, (∃ m, W m σ H) ∧ ∀ m σ H, W m σ H →
  c σ H fun b H1 => if b = true then ∃ N : St → Hp → Prop, (∀ σ' H', N σ' H' → ∃ m', m' < m ∧ W m' σ' H') ∧ tb { D with nx := N, ct := N, bk := D.nx } σ H1 else D.nx σ H1
theorem ps_while {c : Expr} {body : List Stmt} {tc : TT} {tb : TS} (hp : PassesOwn (model X.prog X.w) X.A X.env X.xe) (hc : PT X c tc) (hb : PSs X body tb) : PS X (.While c body [] pos) (tWhile tc tb) := by
  intro pins s σ H D I h
  obtain ⟨W, ⟨m0, w0⟩, turn⟩ := h
  refine wpAny_While (codeAny_whileLoop (fun n s' => ∃ σ' H', Inv X pins σ' H' s' ∧ W n σ' H') ?_ m0 ⟨σ, H, I, w0⟩)
  rintro n s1 ⟨σ1, H1, I1, w1⟩
  refine wpAny_passesOwn hp (thn (hc pins s1 σ1 H1 _ I1 (turn n σ1 H1 w1)) fun b s2 ⟨H2, I2, q2⟩ => ?_)
  cases b with
  | true =>
    obtain ⟨N, hN, q2⟩ := q2
    rw [if_pos rfl]
    refine wpAny_passesOwn hp (thn (hb pins s2 σ1 H2 _ I2 q2) fun f s3 q3 => ?_)
    cases f with
    | next =>
      obtain ⟨σ3, H3, I3, n3⟩ := q3
      obtain ⟨m', hm, w3⟩ := hN σ3 H3 n3
      exact ⟨m', hm, σ3, H3, I3, w3⟩
    | cont =>
      obtain ⟨σ3, H3, I3, n3⟩ := q3
      obtain ⟨m', hm, w3⟩ := hN σ3 H3 n3
      exact ⟨m', hm, σ3, H3, I3, w3⟩
    | brk => exact q3
    | ret v => exact q3
  | false =>
    rw [if_neg Bool.false_ne_true]
    exact wpAny_execs_nil ⟨σ1, H2, I2, q2⟩
end

/-! ### what a loop or a comprehension walks -/
/-- at turn i: it yields x (the heap may grow), or it stops -/
structure It where
  go : Nat → Hp → Prop
  yld : Nat → Hp → V → Hp → Prop
  stop : Nat → Hp → Prop
/-- the iterator's own objects may turn: they are not the frame's, not pinned, younger than the entry (or a comprehension's own) -/
def FpOk (X : Cx) (pins : List (Addr × Obj)) (H : Hp) (b : Addr) : Prop :=
  H b = none ∧ b ≠ X.env.locals ∧ b ∉ X.fs ∧ (b ∈ X.ex ∨ X.s₀.heap.objs.size ≤ b) ∧ (∀ x c, X.env.cells.lookup x = some c → c ≠ b) ∧ ∀ p ∈ X.pn ++ pins, p.1 ≠ b
theorem Inv.fpOk {X : Cx} {pins : List (Addr × Obj)} {σ : St} {H H' : Hp} {s : Shared} {b : Addr} (I : Inv X pins σ H s) (hb : s.heap.objs.size ≤ b) (hn : H' b = none) : FpOk X pins H' b := by
  refine ⟨hn, Nat.ne_of_gt (Nat.lt_of_lt_of_le I.lt hb), I.nofs hb, .inr (Nat.le_trans I.sz hb), fun x c e z => ?_, fun p hp z => ?_⟩
  · obtain ⟨v, q⟩ := I.cell x c e
    exact absurd (Nat.lt_of_lt_of_le q.lt (by rw [z]; exact hb)) (Nat.lt_irrefl _)
  · exact absurd (Nat.lt_of_lt_of_le (Heap.lt_size (I.pin p hp).1) (by rw [z]; exact hb)) (Nat.lt_irrefl _)
structure Turn (P : Program) (w : World) (K : PySem.W.Frag) (tg : Expr) (J : It) (fp : List Addr) (it : Addr) (tn : Nat → Heap → Prop) : Prop where
  mem : it ∈ fp
  obj : ∀ i h, tn i h → ∀ b ∈ fp, ∃ o, h.get? b = some o ∧ ∀ v, o.data ≠ .cell v
  keep : ∀ i h h', tn i h → (∀ b ∈ fp, ∀ o, h.get? b = some o → h'.get? b = some o) → tn i h'
  item : ∀ (X : Cx), X.prog = P → X.w = w → X.K = K → X.calm = true → ∀ (i : Nat) (pins : List (Addr × Obj)) (s : Shared) (σ : St) (H : Hp) (E : Value → Shared → Prop), Inv X pins σ H s → (∀ b ∈ fp, FpOk X pins H b) → tn i s.heap → J.go i H →
    wpAny (model P w) X.A (pyNext (.ref it)) (fun r s1 => ∃ u, r = some u ∧
      wpAny (model P w) X.A (letOwnedTupleGo tg (.ref it) u) (fun _ s2 => ∃ x H', Inv X pins σ H' s2 ∧ RelV x u ∧ J.yld i H x H' ∧ tn (i + 1) s2.heap ∧ ∀ b ∈ fp, H' b = none) E s1) E s
  done : ∀ (X : Cx), X.prog = P → X.w = w → X.K = K → X.calm = true → ∀ (i : Nat) (pins : List (Addr × Obj)) (s : Shared) (σ : St) (H : Hp) (E : Value → Shared → Prop), Inv X pins σ H s → (∀ b ∈ fp, FpOk X pins H b) → tn i s.heap → J.stop i H →
    wpAny (model P w) X.A (pyNext (.ref it)) (fun r s1 => r = none ∧ Inv X pins σ H s1) E s
  self : ∀ (A : Around) (i : Nat) (s : Shared) (Q : Value → Shared → Prop) (E : Value → Shared → Prop), tn i s.heap → Q (.ref it) s → wpAny (model P w) A (pyIter (.ref it)) Q E s
abbrev TI := St → Hp → (It → Hp → Prop) → Prop
/-- an iterator has come -/
def PIE (X : Cx) (pins : List (Addr × Obj)) (σ : St) (tg : Expr) (R : It → Hp → Prop) (itv : Value) (s2 : Shared) : Prop :=
  ∃ (it : Addr) (fp : List Addr) (tn : Nat → Heap → Prop) (J : It) (H' : Hp), itv = .ref it ∧ Inv X pins σ H' s2 ∧ Turn X.prog X.w X.K tg J fp it tn ∧ tn 0 s2.heap ∧ (∀ b ∈ fp, FpOk X pins H' b) ∧ R J H'
def PI (X : Cx) (tg iter : Expr) (wi : TI) : Prop :=
  ∀ (pins : List (Addr × Obj)) (s : Shared) (σ : St) (H : Hp) (R : It → Hp → Prop), Inv X pins σ H s → wi σ H R →
    wpAny (model X.prog X.w) X.A (eval iter X.env) (fun v s1 => wpAny (model X.prog X.w) X.A (pyIter v) (PIE X pins σ tg R) X.xe s1) X.xe s

/-- the step ahead of the store is nothing for an iterator that keeps no tuple -/
theorem go_of {M : Model} {A : Around} {E : Value → Shared → Prop} {s : Shared} {tg : Expr} {it : Addr} {u : Value} {o : Obj} {n : String} {vs : Array Value} {Q : Unit → Shared → Prop} (ho : s.heap.get? it = some o) (hc : o.cls = .type n) (hd : o.data = .fields vs)
    (hn : ["enumerate", "zip", "dict_itemiterator", "dict_reverseitemiterator", "odict_iterator", "itertools.zip_longest", "itertools.pairwise"].contains n = false) (hQ : Q () s) : wpAny M A (letOwnedTupleGo tg (.ref it) u) Q E s := by
  unfold letOwnedTupleGo
  cases tg <;> first
    | exact wpAny_pure hQ
    | (cases u <;> first
        | exact wpAny_pure hQ
        | (refine wpAny_bind (wpAny_load ho ?_)
           rw [hc, hd]
           show wpAny M A (if (["enumerate", "zip", "dict_itemiterator", "dict_reverseitemiterator", "odict_iterator", "itertools.zip_longest", "itertools.pairwise"].contains n && vs[0]? == some (rawInt _)) = true then _ else _) Q E s
           rw [if_neg (by intro h; rw [hn, Bool.false_and] at h; cases h)]
           exact wpAny_pure hQ))

/-- the list at a, as it stands at each turn (a loop may append to it) -/
def Itl (K : PySem.W.Frag) (a : Addr) : It :=
  ⟨fun i H => ∃ xs x, SqL K H a xs ∧ xs[i]? = some x, fun i H x H' => H' = H ∧ ∀ xs, SqL K H a xs → xs[i]? = some x, fun i H => ∃ xs, SqL K H a xs ∧ xs.length ≤ i⟩
def Itt (K : PySem.W.Frag) (a : Addr) : It :=
  ⟨fun i H => ∃ xs x, SqT K H a xs ∧ xs[i]? = some x, fun i H x H' => H' = H ∧ ∀ xs, SqT K H a xs → xs[i]? = some x, fun i H => ∃ xs, SqT K H a xs ∧ xs.length ≤ i⟩
/-- lo, lo + 1, .. (n of them) -/
def Itr (lo : Int) (n : Nat) : It := ⟨fun i _ => i < n, fun i H x H' => H' = H ∧ x = .int (lo + i), fun i _ => n ≤ i⟩
theorem turn_list {P : Program} {w : World} {K : PySem.W.Frag} {tg : Expr} (a it : Addr) : Turn P w K tg (Itl K a) [it] it (fun i h => h.IsListIter it a i) where
  mem := by simp
  obj := fun i h st b hb => by
    have e : b = it := by simpa using hb
    subst e
    obtain ⟨o, e, c, d⟩ := st
    exact ⟨o, e, fun v z => by rw [d] at z; cases z⟩
  keep := fun i h h' st k => st.at fun o e => k it (by simp) o e
  item := by
    intro X hP hw hK hc i pins s σ H E I hf st hg
    subst hP hw hK
    obtain ⟨xs, x, hq, hx⟩ := hg
    obtain ⟨its, rv, p, hz⟩ := I.list hq
    obtain ⟨u, hu, ru⟩ := rv.get hx
    obtain ⟨f0, f1, f2, f3, f4, f5⟩ := hf it (by simp)
    refine wpAny_pyNext_list_item st p.isList (x := u) (by simpa using hu) fun h' st' sb => ?_
    have I1 : Inv X pins σ H { s with heap := h' } := I.turned (t' := s.toks) (fun b o hb e => (sb.2 b hb).trans e) f0 f1 f3 f4 f5
    obtain ⟨o, e, c, d⟩ := id st'
    exact ⟨u, rfl, go_of (s := { s with heap := h' }) e c d (by decide) ⟨x, H, I1, ru, ⟨rfl, fun ys hy => by rw [I.list_inj hy hq]; exact hx⟩, st', fun b hb => (hf b hb).1⟩⟩
  done := by
    intro X hP hw hK hc i pins s σ H E I hf st hg
    subst hP hw hK
    obtain ⟨xs, hq, hx⟩ := hg
    obtain ⟨its, rv, p, hz⟩ := I.list hq
    obtain ⟨f0, f1, f2, f3, f4, f5⟩ := hf it (by simp)
    have hl := rv.length
    exact wpAny_pyNext_list_end (I.ok.hd hc) st p.isList (by simp; omega) fun h' eb => ⟨rfl, I.turned (t' := s.toks) (fun b o hb e => eb b o hb e) f0 f1 f3 f4 f5⟩
  self := fun _ _ _ _ _ st h => wpAny_pyIter_listiter st h
theorem turn_tuple {P : Program} {w : World} {K : PySem.W.Frag} {tg : Expr} (a it : Addr) : Turn P w K tg (Itt K a) [it] it (fun i h => h.IsTupleIter it a i) where
  mem := by simp
  obj := fun i h st b hb => by
    have e : b = it := by simpa using hb
    subst e
    obtain ⟨o, e, c, d⟩ := st
    exact ⟨o, e, fun v z => by rw [d] at z; cases z⟩
  keep := fun i h h' st k => st.at fun o e => k it (by simp) o e
  item := by
    intro X hP hw hK hc i pins s σ H E I hf st hg
    subst hP hw hK
    obtain ⟨xs, x, hq, hx⟩ := hg
    obtain ⟨its, rv, p, hz⟩ := I.tuple hq
    obtain ⟨u, hu, ru⟩ := rv.get hx
    obtain ⟨f0, f1, f2, f3, f4, f5⟩ := hf it (by simp)
    refine wpAny_pyNext_tuple_item st (show s.heap.IsTuple a its.toArray from p) (x := u) (by simpa using hu) fun h' st' sb => ?_
    have I1 : Inv X pins σ H { s with heap := h' } := I.turned (t' := s.toks) (fun b o hb e => (sb.2 b hb).trans e) f0 f1 f3 f4 f5
    obtain ⟨o, e, c, d⟩ := id st'
    exact ⟨u, rfl, go_of (s := { s with heap := h' }) e c d (by decide) ⟨x, H, I1, ru, ⟨rfl, fun ys hy => by rw [I.tuple_inj hy hq]; exact hx⟩, st', fun b hb => (hf b hb).1⟩⟩
  done := by
    intro X hP hw hK hc i pins s σ H E I hf st hg
    subst hP hw hK
    obtain ⟨xs, hq, hx⟩ := hg
    obtain ⟨its, rv, p, hz⟩ := I.tuple hq
    obtain ⟨f0, f1, f2, f3, f4, f5⟩ := hf it (by simp)
    have hl := rv.length
    exact wpAny_pyNext_tuple_end (I.ok.hd hc) st (show s.heap.IsTuple a its.toArray from p) (by simp; omega) fun h' eb => ⟨rfl, I.turned (t' := s.toks) (fun b o hb e => eb b o hb e) f0 f1 f3 f4 f5⟩
  self := fun _ _ _ _ _ st h => wpAny_pyIter_tupleiter st h
theorem turn_range {P : Program} {w : World} {K : PySem.W.Frag} {tg : Expr} (it : Addr) (lo : Int) (n : Nat) : Turn P w K tg (Itr lo n) [it] it (fun i h => IsRangeIter h it (lo + (i : Nat) * 1) ((n : Int) - (i : Nat)) 1) where
  mem := by simp
  obj := fun i h st b hb => by
    have e : b = it := by simpa using hb
    subst e
    exact ⟨_, st, fun v z => by
      have z' : Data.fields _ = Data.cell v := z
      cases z'⟩
  keep := fun i h h' st k => k it (by simp) _ st
  item := by
    intro X hP hw hK hc i pins s σ H E I hf st hg
    subst hP hw hK
    obtain ⟨f0, f1, f2, f3, f4, f5⟩ := hf it (by simp)
    have W := Walks.range (prog := X.prog) (w := X.w) (I.ok.hd hc) it lo 1 n
    refine W.item i s _ _ hg st fun v h' tk hv st' kk => ?_
    obtain ⟨t, rfl⟩ := hv
    have I1 : Inv X pins σ H { s with heap := h', toks := tk } := I.turned (fun b o hb e => kk b o (by simpa using hb) e) f0 f1 f3 f4 f5
    refine ⟨_, rfl, go_of (s := { s with heap := h', toks := tk }) (n := "range_iterator") st' rfl rfl (by decide) ⟨.int (lo + i), H, I1, ⟨t, ?_⟩, ⟨rfl, rfl⟩, st', fun b hb => (hf b hb).1⟩⟩
    rw [Int.mul_one]
  done := by
    intro X hP hw hK hc i pins s σ H E I hf st hg
    subst hP hw hK
    obtain ⟨f0, f1, f2, f3, f4, f5⟩ := hf it (by simp)
    exact wpAny_pyNext_range_end (I.ok.hd hc) st (by have : n ≤ i := hg; omega) fun h' eb => ⟨rfl, I.turned (t' := s.toks) (fun b o hb e => eb b o hb e) f0 f1 f3 f4 f5⟩
  self := fun _ _ _ _ _ st h => wpAny_pyIter_rangeiter st h
end L2

namespace L2
open PySem PySem.Spec PyProof.Rows
section
variable {X : Cx} {tg : Expr}
def iList (K : PySem.W.Frag) (tl : TE) : TI := fun σ H R => tl σ H fun x H1 => ∃ a, x = .ref a ∧ (∃ xs, SqL K H1 a xs) ∧ R (Itl K a) H1
def iTup (K : PySem.W.Frag) (tl : TE) : TI := fun σ H R => tl σ H fun x H1 => ∃ a, x = .ref a ∧ (∃ xs, SqT K H1 a xs) ∧ R (Itt K a) H1
theorem pi_list {l : Expr} {tl : TE} (hl : PE X l tl) : PI X tg l (iList X.K tl) := by
  intro pins s σ H R I h
  refine thn (hl pins s σ H _ I h) fun v s1 ⟨x, H1, I1, r1, q1⟩ => ?_
  obtain ⟨a, e, ⟨xs, hq⟩, q⟩ := q1
  subst e
  cases r1
  obtain ⟨its, rv, p, hz⟩ := I1.list hq
  refine wpAny_pyIter_list p.isList ?_
  refine ⟨s1.heap.objs.size, [s1.heap.objs.size], _, _, H1, rfl, I1.kept (t' := s1.toks) fun b o e => Heap.get?_push_of_some _ e, turn_list a _, ⟨_, Heap.get?_push_size _ rfl, rfl, rfl⟩, fun b hb => ?_, q⟩
  have e : b = s1.heap.objs.size := by simpa using hb
  subst e
  exact I1.fpOk (Nat.le_refl _) (I1.hok.fresh (Nat.le_refl _))
theorem pi_tup {l : Expr} {tl : TE} (hl : PE X l tl) : PI X tg l (iTup X.K tl) := by
  intro pins s σ H R I h
  refine thn (hl pins s σ H _ I h) fun v s1 ⟨x, H1, I1, r1, q1⟩ => ?_
  obtain ⟨a, e, ⟨xs, hq⟩, q⟩ := q1
  subst e
  cases r1
  obtain ⟨its, rv, p, hz⟩ := I1.tuple hq
  refine wpAny_pyIter_tuple (show s1.heap.IsTuple a its.toArray from p) ?_
  refine ⟨s1.heap.objs.size, [s1.heap.objs.size], _, _, H1, rfl, I1.kept (t' := s1.toks) fun b o e => Heap.get?_push_of_some _ e, turn_tuple a _, ⟨_, Heap.get?_push_size _ rfl, rfl, rfl⟩, fun b hb => ?_, q⟩
  have e : b = s1.heap.objs.size := by simpa using hb
  subst e
  exact I1.fpOk (Nat.le_refl _) (I1.hok.fresh (Nat.le_refl _))
/-- a range object just made, walked -/
theorem range_it {pins : List (Addr × Obj)} {σ : St} {H : Hp} {s : Shared} {R : It → Hp → Prop} {E : Value → Shared → Prop} {lo hi : Int} {t u v : Tok} {tk : Nat} (I : Inv X pins σ H s) (h1 : -(2 ^ 62) ≤ lo) (h2 : lo < 2 ^ 62) (h3 : -(2 ^ 62) ≤ hi) (h4 : hi < 2 ^ 62)
    (q : R (Itr lo (hi - lo).toNat) H) : wpAny (model X.prog X.w) X.A (pyIter (.ref s.heap.objs.size)) (PIE X pins σ tg R) E { s with heap := s.heap.push { cls := .type "range", data := .fields #[.int lo t, .int hi u, .int 1 v] }, toks := tk } := by
  refine wpAny_pyIter_range (IsRange.new ..) (small_one h1 h2 h3 h4) ?_
  have I1 : Inv X pins σ H { s with heap := s.heap.push { cls := .type "range", data := .fields #[.int lo t, .int hi u, .int 1 v] }, toks := tk } := I.kept fun b o e => Heap.get?_push_of_some _ e
  refine ⟨(s.heap.push { cls := .type "range", data := .fields #[.int lo t, .int hi u, .int 1 v] }).objs.size, [(s.heap.push { cls := .type "range", data := .fields #[.int lo t, .int hi u, .int 1 v] }).objs.size], _, _, H, rfl,
    I1.kept (t' := tk) fun b o e => Heap.get?_push_of_some _ e, turn_range _ lo (hi - lo).toNat, ?_, fun b hb => ?_, q⟩
  · have e1 : lo + ((0 : Nat) : Int) * 1 = lo := by simp
    have e2 : (((hi - lo).toNat : Nat) : Int) - ((0 : Nat) : Int) = Builtin.Range.rangeSize lo hi 1 := by rw [rangeSize_one]; split <;> omega
    show IsRangeIter _ _ (lo + ((0 : Nat) : Int) * 1) ((((hi - lo).toNat : Nat) : Int) - ((0 : Nat) : Int)) 1
    rw [e1, e2]
    exact Heap.get?_push_size _ rfl
  · have e : b = (s.heap.push { cls := .type "range", data := .fields #[.int lo t, .int hi u, .int 1 v] }).objs.size := by simpa using hb
    subst e
    exact I1.fpOk (Nat.le_refl _) (I1.hok.fresh (Nat.le_refl _))
def iRng1 (ta : TA) : TI := fun σ H R => ta σ H fun vs H1 => ∃ j : Int, vs = [.int j] ∧ -(2 ^ 62) ≤ j ∧ j < 2 ^ 62 ∧ R (Itr 0 j.toNat) H1
def iRng2 (ta : TA) : TI := fun σ H R => ta σ H fun vs H1 => ∃ i j : Int, vs = [.int i, .int j] ∧ (-(2 ^ 62) ≤ i ∧ i < 2 ^ 62 ∧ -(2 ^ 62) ≤ j ∧ j < 2 ^ 62) ∧ R (Itr i (j - i).toNat) H1
theorem pi_range1 {a : Expr} {ta : TA} {p pos : Pos} (hg : Gl X "range") (hm : X.mg "range" = none) (ha : PA X [a] ta) (hs : starEach [a] X.env = [(false, eval a X.env)] := by rfl) : PI X tg (.Call (.Name "range" p) [a] [] pos) (iRng1 ta) := by
  intro pins s σ H R I h
  refine Call_ (ld_blt I hg hm boot_range (PyProof.Rows.callWith_type1 (thn (ha pos pins s σ H _ I h) fun us s1 ⟨vs, H1, I1, r1, q1⟩ => ?_) hs rfl))
  obtain ⟨j, e, q1, q2, q⟩ := q1
  subst e
  cases r1 with
  | cons r rr =>
    cases rr
    obtain ⟨t, rfl⟩ := r
    exact call_range_1 (range_it I1 (by omega) (by omega) q1 q2 (by simpa using q))
theorem pi_range2 {a b : Expr} {ta : TA} {p pos : Pos} (hg : Gl X "range") (hm : X.mg "range" = none) (ha : PA X [a, b] ta) (hs : starEach [a, b] X.env = [(false, eval a X.env), (false, eval b X.env)] := by rfl) (hs2 : starEach [b] X.env = [(false, eval b X.env)] := by rfl) :
    PI X tg (.Call (.Name "range" p) [a, b] [] pos) (iRng2 ta) := by
  intro pins s σ H R I h
  refine Call_ (ld_blt I hg hm boot_range (PyProof.Rows.callWith_type1 (thn (ha pos pins s σ H _ I h) fun us s1 ⟨vs, H1, I1, r1, q1⟩ => ?_) (by rw [hs, hs2]) (by rw [hs2]; rfl)))
  obtain ⟨i, j, e, ⟨q1, q2, q3, q4⟩, q⟩ := q1
  subst e
  cases r1 with
  | cons r rr =>
    cases rr with
    | cons r' rr =>
      cases rr
      obtain ⟨t, rfl⟩ := r
      obtain ⟨t', rfl⟩ := r'
      exact call_range_2 (range_it I1 q1 q2 q3 q4 q)

/-! ### for -/
/-- W: the invariant by the turn and a measure; N: what the body is to reach -/
def tFor (wi : TI) (g : TG) (tb : TS) : TS := fun D σ H => wi σ H fun J H1 => ∃ W : Nat → Nat → St → Hp → Prop, (∃ m, W 0 m σ H1) ∧ ∀ i m σ H, W i m σ H →
  (J.stop i H ∧ D.nx σ H) ∨ (J.go i H ∧ ∃ N : St → Hp → Prop, (∀ σ' H', N σ' H' → ∃ m', m' < m ∧ W (i + 1) m' σ' H') ∧ ∀ x H', J.yld i H x H' → g x σ H' fun σ2 H2 => tb { D with nx := N, ct := N, bk := D.nx } σ2 H2)
/-- the records at fp as they stand -/
def pinsAt (fp : List Addr) (h : Heap) : List (Addr × Obj) := fp.filterMap fun b => (h.get? b).map fun o => (b, o)
theorem mem_pinsAt {fp : List Addr} {h : Heap} {b : Addr} {o : Obj} (hb : b ∈ fp) (e : h.get? b = some o) : (b, o) ∈ pinsAt fp h := List.mem_filterMap.mpr ⟨b, hb, by rw [e]; rfl⟩
theorem of_pinsAt {fp : List Addr} {h : Heap} {p : Addr × Obj} (hp : p ∈ pinsAt fp h) : p.1 ∈ fp ∧ h.get? p.1 = some p.2 := by
  obtain ⟨b, hb, e⟩ := List.mem_filterMap.mp hp
  cases q : h.get? b with
  | none => rw [q] at e; cases e
  | some o =>
    rw [q] at e
    have e' : (b, o) = p := Option.some.inj e
    subst e'
    exact ⟨hb, q⟩
theorem Inv.pinned {pins : List (Addr × Obj)} {σ : St} {H : Hp} {s : Shared} {fp : List Addr} (I : Inv X pins σ H s) (hf : ∀ b ∈ fp, FpOk X pins H b) (ho : ∀ b ∈ fp, ∃ o, s.heap.get? b = some o ∧ ∀ v, o.data ≠ .cell v) : Inv X (pins ++ pinsAt fp s.heap) σ H s :=
  I.pins_of fun p hp => (List.mem_append.mp hp).elim (fun z => I.pin p (List.mem_append_right _ z)) fun z => by
    obtain ⟨hb, e⟩ := of_pinsAt z
    obtain ⟨f0, f1, f2, _⟩ := hf p.1 hb
    obtain ⟨o, e', d⟩ := ho p.1 hb
    rw [e] at e'; cases e'
    exact ⟨e, f0, f1, f2, d⟩
theorem Inv.unpinned {pins pl : List (Addr × Obj)} {σ : St} {H : Hp} {s : Shared} (I : Inv X (pins ++ pl) σ H s) : Inv X pins σ H s := I.pins_of fun p hp => I.pin p (List.mem_append_right _ (List.mem_append_left _ hp))
theorem ps_for {iter : Expr} {body : List Stmt} {wi : TI} {g : TG} {tb : TS} {pos : Pos} (hp : PassesOwn (model X.prog X.w) X.A X.env X.xe) (hc : X.calm = true) (hi : PI X tg iter wi) (hg : PG X tg g) (hb : PSs X body tb)
    (hs : ∀ x, foldedSetIterable iter X.env x = pure x := by intro _; rfl) : PS X (.For tg iter body [] pos) (tFor wi g tb) := by
  intro pins s σ H D I h
  refine wpAny_For (thn (hi pins s σ H _ I h) fun v s1 h1 => thn h1 fun itv s2 h2 => ?_) hs
  obtain ⟨it, fp, tn, J, H2, e, I2, T, st2, f2, W, ⟨m0, w0⟩, turn⟩ := h2
  subst e
  -- what stays true of the iterator's objects through the loop
  have stat : ∀ {H' : Hp}, (∀ b ∈ fp, H' b = none) → ∀ b ∈ fp, FpOk X pins H' b := fun hn b hb => ⟨hn b hb, (f2 b hb).2⟩
  refine codeAny_forLoop_any (fun n s' => ∃ i σ' H', Inv X pins σ' H' s' ∧ tn i s'.heap ∧ (∀ b ∈ fp, H' b = none) ∧ W i n σ' H') ?_ m0 ⟨0, σ, H2, I2, st2, fun b hb => (f2 b hb).1, w0⟩
  rintro n s3 ⟨i, σ3, H3, I3, st3, fr3, w3⟩
  rcases turn i n σ3 H3 w3 with ⟨stop, qn⟩ | ⟨go, N, hN, step⟩
  · refine wpAny_passesOwn hp (thn (T.done X rfl rfl rfl hc i pins s3 σ3 H3 X.xe I3 (stat fr3) st3 stop) fun r s4 ⟨hr, I4⟩ => ?_)
    subst hr
    exact wpAny_execs_nil ⟨σ3, H3, I4, qn⟩
  · refine wpAny_passesOwn hp (thn (T.item X rfl rfl rfl hc i pins s3 σ3 H3 X.xe I3 (stat fr3) st3 go) fun r s4 ⟨u, hr, h4⟩ => ?_)
    subst hr
    refine wpAny_passesOwn hp (thn h4 fun _ s5 ⟨x, H5, I5, r5, y5, st5, fr5⟩ => ?_)
    have I5' := I5.pinned (stat fr5) (T.obj _ _ st5)
    refine wpAny_passesOwn hp (thn (hg _ s5 σ3 H5 x u _ I5' r5 (step x H5 y5)) fun _ s6 ⟨σ6, H6, I6, q6⟩ => ?_)
    refine wpAny_passesOwn hp (thn (hb _ s6 σ6 H6 _ I6 q6) fun f s7 q7 => ?_)
    have again : ∀ {σ7 : St} {H7 : Hp}, Inv X (pins ++ pinsAt fp s5.heap) σ7 H7 s7 → N σ7 H7 → ∃ m, m < n ∧ ∃ i σ' H', Inv X pins σ' H' s7 ∧ tn i s7.heap ∧ (∀ b ∈ fp, H' b = none) ∧ W i m σ' H' := fun {σ7 H7} I7 n7 => by
      obtain ⟨m', hm, w7⟩ := hN σ7 H7 n7
      refine ⟨m', hm, i + 1, σ7, H7, I7.unpinned, T.keep _ _ _ st5 fun b hb o e => (I7.pin (b, o) (List.mem_append_right _ (List.mem_append_right _ (mem_pinsAt hb e)))).1, fun b hb => ?_, w7⟩
      obtain ⟨o, e, d⟩ := T.obj _ _ st5 b hb
      exact (I7.pin (b, o) (List.mem_append_right _ (List.mem_append_right _ (mem_pinsAt hb e)))).2.1
    cases f with
    | next => obtain ⟨σ7, H7, I7, n7⟩ := q7; exact again I7 n7
    | cont => obtain ⟨σ7, H7, I7, n7⟩ := q7; exact again I7 n7
    | brk => obtain ⟨σ7, H7, I7, q7⟩ := q7; exact ⟨σ7, H7, I7.unpinned, q7⟩
    | ret v => obtain ⟨x7, σ7, H7, I7, r7, q7⟩ := q7; exact ⟨x7, σ7, H7, I7.unpinned, r7, q7⟩
end

/-! ### the forms one uses -/
/-- over a list that the body leaves as it is -/
theorem for_list {K : PySem.W.Frag} {a : Addr} {xs : List V} {g : TG} {tb : TS} {D : Ends} {σ : St} {H : Hp} (Pv : Nat → St → Hp → Prop) (h0 : Pv 0 σ H) (hl : ∀ i σ H, i ≤ xs.length → Pv i σ H → SqL K H a xs)
    (hs : ∀ i x σ H, xs[i]? = some x → Pv i σ H → g x σ H fun σ2 H2 => tb { D with nx := Pv (i + 1), ct := Pv (i + 1), bk := D.nx } σ2 H2) (hd : ∀ σ H, Pv xs.length σ H → D.nx σ H) :
    ∃ W : Nat → Nat → St → Hp → Prop, (∃ m, W 0 m σ H) ∧ ∀ i m σ H, W i m σ H →
      ((Itl K a).stop i H ∧ D.nx σ H) ∨ ((Itl K a).go i H ∧ ∃ N : St → Hp → Prop, (∀ σ' H', N σ' H' → ∃ m', m' < m ∧ W (i + 1) m' σ' H') ∧ ∀ x H', (Itl K a).yld i H x H' → g x σ H' fun σ2 H2 => tb { D with nx := N, ct := N, bk := D.nx } σ2 H2) := by
  refine ⟨fun i m σ H => m = xs.length - i ∧ i ≤ xs.length ∧ Pv i σ H, ⟨xs.length, by simp, Nat.zero_le _, h0⟩, ?_⟩
  rintro i m σ H ⟨rfl, hi, p⟩
  have q := hl i σ H hi p
  by_cases hlt : i < xs.length
  · refine .inr ⟨⟨xs, xs[i], q, by simp [hlt]⟩, Pv (i + 1), fun σ' H' p' => ⟨xs.length - (i + 1), by omega, rfl, hlt, p'⟩, fun x H' y => ?_⟩
    obtain ⟨e, y⟩ := y
    subst e
    exact hs i x σ _ (y xs q) p
  · have e : i = xs.length := by omega
    subst e
    exact .inl ⟨⟨xs, q, Nat.le_refl _⟩, hd σ H p⟩
theorem for_tup {K : PySem.W.Frag} {a : Addr} {xs : List V} {g : TG} {tb : TS} {D : Ends} {σ : St} {H : Hp} (Pv : Nat → St → Hp → Prop) (h0 : Pv 0 σ H) (hl : ∀ i σ H, i ≤ xs.length → Pv i σ H → SqT K H a xs)
    (hs : ∀ i x σ H, xs[i]? = some x → Pv i σ H → g x σ H fun σ2 H2 => tb { D with nx := Pv (i + 1), ct := Pv (i + 1), bk := D.nx } σ2 H2) (hd : ∀ σ H, Pv xs.length σ H → D.nx σ H) :
    ∃ W : Nat → Nat → St → Hp → Prop, (∃ m, W 0 m σ H) ∧ ∀ i m σ H, W i m σ H →
      ((Itt K a).stop i H ∧ D.nx σ H) ∨ ((Itt K a).go i H ∧ ∃ N : St → Hp → Prop, (∀ σ' H', N σ' H' → ∃ m', m' < m ∧ W (i + 1) m' σ' H') ∧ ∀ x H', (Itt K a).yld i H x H' → g x σ H' fun σ2 H2 => tb { D with nx := N, ct := N, bk := D.nx } σ2 H2) := by
  refine ⟨fun i m σ H => m = xs.length - i ∧ i ≤ xs.length ∧ Pv i σ H, ⟨xs.length, by simp, Nat.zero_le _, h0⟩, ?_⟩
  rintro i m σ H ⟨rfl, hi, p⟩
  have q := hl i σ H hi p
  by_cases hlt : i < xs.length
  · refine .inr ⟨⟨xs, xs[i], q, by simp [hlt]⟩, Pv (i + 1), fun σ' H' p' => ⟨xs.length - (i + 1), by omega, rfl, hlt, p'⟩, fun x H' y => ?_⟩
    obtain ⟨e, y⟩ := y
    subst e
    exact hs i x σ _ (y xs q) p
  · have e : i = xs.length := by omega
    subst e
    exact .inl ⟨⟨xs, q, Nat.le_refl _⟩, hd σ H p⟩
theorem for_range {lo : Int} {n : Nat} {g : TG} {tb : TS} {D : Ends} {σ : St} {H : Hp} (Pv : Nat → St → Hp → Prop) (h0 : Pv 0 σ H)
    (hs : ∀ i σ H, i < n → Pv i σ H → g (.int (lo + i)) σ H fun σ2 H2 => tb { D with nx := Pv (i + 1), ct := Pv (i + 1), bk := D.nx } σ2 H2) (hd : ∀ σ H, Pv n σ H → D.nx σ H) :
    ∃ W : Nat → Nat → St → Hp → Prop, (∃ m, W 0 m σ H) ∧ ∀ i m σ H, W i m σ H →
      ((Itr lo n).stop i H ∧ D.nx σ H) ∨ ((Itr lo n).go i H ∧ ∃ N : St → Hp → Prop, (∀ σ' H', N σ' H' → ∃ m', m' < m ∧ W (i + 1) m' σ' H') ∧ ∀ x H', (Itr lo n).yld i H x H' → g x σ H' fun σ2 H2 => tb { D with nx := N, ct := N, bk := D.nx } σ2 H2) := by
  refine ⟨fun i m σ H => m = n - i ∧ i ≤ n ∧ Pv i σ H, ⟨n, by simp, Nat.zero_le _, h0⟩, ?_⟩
  rintro i m σ H ⟨rfl, hi, p⟩
  by_cases hlt : i < n
  · refine .inr ⟨hlt, Pv (i + 1), fun σ' H' p' => ⟨n - (i + 1), by omega, rfl, hlt, p'⟩, fun x H' y => ?_⟩
    obtain ⟨e, y⟩ := y
    subst e y
    exact hs i σ _ hlt p
  · have e : i = n := by omega
    subst e
    exact .inl ⟨Nat.le_refl _, hd σ H p⟩
/-- while, by a word and a measure of the state -/
theorem while_by {c : TT} {tb : TS} {D : Ends} {σ : St} {H : Hp} (Pv : St → Hp → Prop) (μ : St → Hp → Nat) (h0 : Pv σ H)
    (hs : ∀ σ H, Pv σ H → c σ H fun b H1 => if b = true then tb { D with nx := fun σ' H' => Pv σ' H' ∧ μ σ' H' < μ σ H, ct := fun σ' H' => Pv σ' H' ∧ μ σ' H' < μ σ H, bk := D.nx } σ H1 else D.nx σ H1)
    (mono : ∀ σ H Q Q', (∀ b H1, Q b H1 → Q' b H1) → c σ H Q → c σ H Q') : tWhile c tb D σ H := by
  refine ⟨fun m σ H => m = μ σ H ∧ Pv σ H, ⟨_, rfl, h0⟩, ?_⟩
  rintro m σ H ⟨rfl, p⟩
  refine mono σ H _ _ (fun b H1 q => ?_) (hs σ H p)
  cases b with
  | true => exact ⟨_, fun σ' H' ⟨p', l⟩ => ⟨_, l, rfl, p'⟩, q⟩
  | false => exact q
end L2

namespace L2
open PySem PySem.Spec PyProof.Rows

abbrev R2 := V → V → Hp → VK → Prop
/-- a two-place operation on values: f is binaryOp op, inplaceOp op or compareOp op -/
def OpR (X : Cx) (f : Value → Value → Sem Value) (r : R2) : Prop :=
  ∀ (pins : List (Addr × Obj)) (s : Shared) (σ : St) (H : Hp) (x y : V) (v u : Value) (Q : VK), Inv X pins σ H s → RelV x v → RelV y u → r x y H Q →
    wpAny (model X.prog X.w) X.A (f v u) (EP X pins σ Q) X.xe s
/-- a one-place operation -/
def UnR (X : Cx) (f : Value → Sem Value) (r : V → Hp → VK → Prop) : Prop :=
  ∀ (pins : List (Addr × Obj)) (s : Shared) (σ : St) (H : Hp) (x : V) (v : Value) (Q : VK), Inv X pins σ H s → RelV x v → r x H Q →
    wpAny (model X.prog X.w) X.A (f v) (EP X pins σ Q) X.xe s
/-- a call of a value that is known (a builtin, a type) with values -/
def CallR (X : Cx) (f : Value) (r : List V → Hp → VK → Prop) : Prop :=
  ∀ (pins : List (Addr × Obj)) (s : Shared) (σ : St) (H : Hp) (xs : List V) (us : List Value) (Q : VK), Inv X pins σ H s → Vals xs us → r xs H Q →
    wpAny (model X.prog X.w) X.A (call f us) (EP X pins σ Q) X.xe s
/-- a value's truth -/
def TruR (X : Cx) (r : V → Hp → (Bool → Hp → Prop) → Prop) : Prop :=
  ∀ (pins : List (Addr × Obj)) (s : Shared) (σ : St) (H : Hp) (x : V) (v : Value) (Q : Bool → Hp → Prop), Inv X pins σ H s → RelV x v → r x H Q →
    wpAny (model X.prog X.w) X.A (truthy v) (TP X pins σ Q) X.xe s

def tOp (r : R2) (ta tb : TE) : TE := fun σ H Q => ta σ H fun x H1 => tb σ H1 fun y H2 => r x y H2 Q
def tUn (r : V → Hp → VK → Prop) (ta : TE) : TE := fun σ H Q => ta σ H fun x H1 => r x H1 Q
/-- ints in, under C, and a value out -/
def rI (C : Int → Int → Prop) (g : Int → Int → V) : R2 := fun x y H Q => ∃ i j, x = .int i ∧ y = .int j ∧ C i j ∧ Q (g i j) H
def rI0 (g : Int → Int → V) : R2 := fun x y H Q => ∃ i j, x = .int i ∧ y = .int j ∧ Q (g i j) H
def rU (g : Int → V) : V → Hp → VK → Prop := fun x H Q => ∃ i, x = .int i ∧ Q (g i) H

section
variable {X : Cx} {a b c : Expr} {ta tb tc : TE} {pos : Pos}

theorem binT (ha : PE X a ta) (hb : PE X b tb) {pins : List (Addr × Obj)} {s : Shared} {σ : St} {H : Hp} {R : V → V → Hp → Prop} (I : Inv X pins σ H s)
    (h : ta σ H fun x H1 => tb σ H1 fun y H2 => R x y H2) {Q : Value → Shared → Prop} {f : Value → Value → Sem Value}
    (hf : ∀ v u s2 x y H2, Inv X pins σ H2 s2 → RelV x v → RelV y u → R x y H2 → wpAny (model X.prog X.w) X.A (f v u) Q X.xe s2) :
    wpAny (model X.prog X.w) X.A (eval a X.env) (fun v s₁ => wpAny (model X.prog X.w) X.A (eval b X.env) (fun u s₂ => wpAny (model X.prog X.w) X.A (f v u) Q X.xe s₂) X.xe s₁) X.xe s := by
  refine thn (ha pins s σ H _ I h) fun v s1 ⟨x, H1, I1, r1, q1⟩ => ?_
  refine thn (hb pins s1 σ H1 _ I1 q1) fun u s2 ⟨y, H2, I2, r2, q2⟩ => ?_
  exact hf v u s2 x y H2 I2 r1 r2 q2

theorem pe_op {op : Operator} {r : R2} (ho : OpR X (binaryOp op) r) (ha : PE X a ta) (hb : PE X b tb) : PE X (.BinOp a op b pos) (tOp r ta tb) := by
  intro pins s σ H Q I h
  exact wpAny_BinOp (binT ha hb I h fun v u s2 x y H2 I2 rx ry q => ho pins s2 σ H2 x y v u Q I2 rx ry q)
theorem pe_un {op : UnaryOp} {r : V → Hp → VK → Prop} (ho : UnR X (unaryOp op) r) (ha : PE X a ta) : PE X (.UnaryOp op a pos) (tUn r ta) := by
  intro pins s σ H Q I h
  exact UnaryOp_ (thn (ha pins s σ H _ I h) fun v s1 ⟨x, H1, I1, r1, q1⟩ => ho pins s1 σ H1 x v Q I1 r1 q1)
/-- a op= e at a name: the name's slot i -/
theorem augR {op : Operator} {r : R2} (ho : OpR X (inplaceOp op) r) {pins : List (Addr × Obj)} {s : Shared} {σ : St} {H : Hp} {x y : V} {v u : Value} {Q : VK} (I : Inv X pins σ H s)
    (rx : RelV x v) (ry : RelV y u) (q : r x y H Q) : wpAny (model X.prog X.w) X.A (inplaceOp op v u) (EP X pins σ Q) X.xe s := ho pins s σ H x y v u Q I rx ry q

/-! ### ints -/
theorem opI {f : Value → Value → Sem Value} {C : Int → Int → Prop} {g : Int → Int → Int}
    (rule : ∀ (i j : Int) (t u : Tok) (s : Shared) (Q : Value → Shared → Prop) (E : Value → Shared → Prop), C i j → Q (.int (g i j) s.toks) { s with toks := s.toks + 1 } → wpAny (model X.prog X.w) X.A (f (.int i t) (.int j u)) Q E s) :
    OpR X f (rI C fun i j => .int (g i j)) := by
  intro pins s σ H x y v u Q I rx ry h
  obtain ⟨i, j, rfl, rfl, hc, q⟩ := h
  obtain ⟨t, rfl⟩ := rx
  obtain ⟨t', rfl⟩ := ry
  exact rule i j t t' s _ _ hc ⟨.int (g i j), H, I.tok _, ⟨_, rfl⟩, q⟩
theorem opI0 {f : Value → Value → Sem Value} {g : Int → Int → Int}
    (rule : ∀ (i j : Int) (t u : Tok) (s : Shared) (Q : Value → Shared → Prop) (E : Value → Shared → Prop), Q (.int (g i j) s.toks) { s with toks := s.toks + 1 } → wpAny (model X.prog X.w) X.A (f (.int i t) (.int j u)) Q E s) :
    OpR X f (rI0 fun i j => .int (g i j)) := by
  intro pins s σ H x y v u Q I rx ry h
  obtain ⟨i, j, rfl, rfl, q⟩ := h
  obtain ⟨t, rfl⟩ := rx
  obtain ⟨t', rfl⟩ := ry
  exact rule i j t t' s _ _ ⟨.int (g i j), H, I.tok _, ⟨_, rfl⟩, q⟩
theorem opB0 {f : Value → Value → Sem Value} {g : Int → Int → Bool}
    (rule : ∀ (i j : Int) (t u : Tok) (s : Shared) (Q : Value → Shared → Prop) (E : Value → Shared → Prop), Q (.bool (g i j)) s → wpAny (model X.prog X.w) X.A (f (.int i t) (.int j u)) Q E s) :
    OpR X f (rI0 fun i j => .bl (g i j)) := by
  intro pins s σ H x y v u Q I rx ry h
  obtain ⟨i, j, rfl, rfl, q⟩ := h
  obtain ⟨t, rfl⟩ := rx
  obtain ⟨t', rfl⟩ := ry
  exact rule i j t t' s _ _ ⟨.bl (g i j), H, I, rfl, q⟩

def CDiv (i j : Int) : Prop := 0 < j ∧ j < 1073741824
def CDivN (i j : Int) : Prop := j ≠ 0 ∧ j.natAbs < 1073741824
def CPow (i j : Int) : Prop := 0 ≤ j ∧ j ≤ 1000000 ∧ i.natAbs < 2 ^ 64
def CMul (i j : Int) : Prop := (-(2 ^ 64) < i ∧ i < 2 ^ 64) ∨ (-(2 ^ 64) < j ∧ j < 2 ^ 64)
theorem CMul.ok {i j : Int} (h : CMul i j) : IntMulOk i j := by
  rcases h with ⟨h1, h2⟩ | ⟨h1, h2⟩
  · exact .of_left (intBits_le_64 h1 h2)
  · exact .of_right (intBits_le_64 h1 h2)
theorem two_pow_nn (k : Nat) : (0 : Int) ≤ 2 ^ k := by
  rw [two_pow_cast]
  exact Int.natCast_nonneg _

theorem op_add : OpR X (binaryOp .Add) (rI0 fun i j => .int (i + j)) := opI0 fun _ _ _ _ _ _ _ q => add_int q
theorem op_sub : OpR X (binaryOp .Sub) (rI0 fun i j => .int (i - j)) := opI0 fun _ _ _ _ _ _ _ q => sub_int q
theorem op_mul : OpR X (binaryOp .Mult) (rI CMul fun i j => .int (i * j)) := opI fun _ _ _ _ _ _ _ hc q => mul_int q hc.ok
/-- // by a positive divisor -/
theorem op_fdiv : OpR X (binaryOp .FloorDiv) (rI CDiv fun i j => .int (i / j)) := opI fun i j _ _ _ _ _ hc q => by
  have h1 : (0 : Int) < j := hc.1
  have h2 : j < 1073741824 := hc.2
  exact floordiv_int (by omega) (by rw [Int.fdiv_eq_ediv_of_nonneg i (by omega)]; exact q) (.inl (PyProof.noPylong_small (by omega)))
theorem op_fdivN : OpR X (binaryOp .FloorDiv) (rI CDivN fun i j => .int (i.fdiv j)) := opI fun _ _ _ _ _ _ _ hc q => floordiv_int hc.1 q (.inl (PyProof.noPylong_small hc.2))
/-- % by a positive divisor of any size -/
theorem op_mod : OpR X (binaryOp .Mod) (rI (fun _ j => 0 < j) fun i j => .int (i % j)) := opI fun i j _ _ _ _ _ hc q => by
  have h1 : (0 : Int) < j := hc
  exact mod_int' (by omega) (by rw [Int.fmod_eq_emod_of_nonneg i (by omega)]; exact q)
theorem op_modN : OpR X (binaryOp .Mod) (rI (fun _ j => j ≠ 0) fun i j => .int (i.fmod j)) := opI fun _ _ _ _ _ _ _ hc q => mod_int' hc q
theorem op_pow : OpR X (binaryOp .Pow) (rI CPow fun i j => .int (i ^ j.toNat)) := opI fun _ _ _ _ _ _ _ hc q => pow_int_small hc.1 hc.2.1 hc.2.2 q
theorem op_shl : OpR X (binaryOp .LShift) (rI CPow fun i j => .int (i * 2 ^ j.toNat)) := opI fun _ _ _ _ _ _ _ hc q => lshift_int_small hc.1 hc.2.1 hc.2.2 q
theorem op_shr : OpR X (binaryOp .RShift) (rI (fun _ j => 0 ≤ j) fun i j => .int (i / 2 ^ j.toNat)) := opI fun i j _ _ _ _ _ hc q =>
  rshift_int hc (by rw [Int.fdiv_eq_ediv_of_nonneg i (two_pow_nn _)]; exact q)
theorem op_and : OpR X (binaryOp .BitAnd) (rI0 fun i j => .int (Builtin.bitAnd i j)) := opI0 fun _ _ _ _ _ _ _ q => and_int q
theorem op_or : OpR X (binaryOp .BitOr) (rI0 fun i j => .int (Builtin.bitOr i j)) := opI0 fun _ _ _ _ _ _ _ q => or_int q
theorem op_xor : OpR X (binaryOp .BitXor) (rI0 fun i j => .int (Builtin.bitXor i j)) := opI0 fun _ _ _ _ _ _ _ q => xor_int q

theorem iop_add : OpR X (inplaceOp .Add) (rI0 fun i j => .int (i + j)) := opI0 fun _ _ _ _ _ _ _ q => iadd_int q
theorem iop_sub : OpR X (inplaceOp .Sub) (rI0 fun i j => .int (i - j)) := opI0 fun _ _ _ _ _ _ _ q => isub_int q
theorem iop_mul : OpR X (inplaceOp .Mult) (rI CMul fun i j => .int (i * j)) := opI fun _ _ _ _ _ _ _ hc q => imul_int q hc.ok
theorem iop_fdiv : OpR X (inplaceOp .FloorDiv) (rI CDiv fun i j => .int (i / j)) := opI fun i j _ _ _ _ _ hc q => by
  have h1 : (0 : Int) < j := hc.1
  have h2 : j < 1073741824 := hc.2
  exact ifloordiv_int (by omega) (by rw [Int.fdiv_eq_ediv_of_nonneg i (by omega)]; exact q) (.inl (PyProof.noPylong_small (by omega)))
theorem iop_mod : OpR X (inplaceOp .Mod) (rI (fun _ j => 0 < j) fun i j => .int (i % j)) := opI fun i j _ _ _ _ _ hc q => by
  have h1 : (0 : Int) < j := hc
  exact imod_int (by omega) (by rw [Int.fmod_eq_emod_of_nonneg i (by omega)]; exact q)
theorem iop_shl : OpR X (inplaceOp .LShift) (rI CPow fun i j => .int (i * 2 ^ j.toNat)) := opI fun _ _ _ _ _ _ _ hc q => ilshift_int_small hc.1 hc.2.1 hc.2.2 q
theorem iop_shr : OpR X (inplaceOp .RShift) (rI (fun _ j => 0 ≤ j) fun i j => .int (i / 2 ^ j.toNat)) := opI fun i j _ _ _ _ _ hc q =>
  irshift_int hc (by rw [Int.fdiv_eq_ediv_of_nonneg i (two_pow_nn _)]; exact q)
theorem iop_and : OpR X (inplaceOp .BitAnd) (rI0 fun i j => .int (Builtin.bitAnd i j)) := opI0 fun _ _ _ _ _ _ _ q => iand_int q
theorem iop_or : OpR X (inplaceOp .BitOr) (rI0 fun i j => .int (Builtin.bitOr i j)) := opI0 fun _ _ _ _ _ _ _ q => ior_int q
theorem iop_xor : OpR X (inplaceOp .BitXor) (rI0 fun i j => .int (Builtin.bitXor i j)) := opI0 fun _ _ _ _ _ _ _ q => ixor_int q

theorem unI {f : Value → Sem Value} {g : Int → Int}
    (rule : ∀ (i : Int) (t : Tok) (s : Shared) (Q : Value → Shared → Prop) (E : Value → Shared → Prop), Q (.int (g i) s.toks) { s with toks := s.toks + 1 } → wpAny (model X.prog X.w) X.A (f (.int i t)) Q E s) :
    UnR X f (rU fun i => .int (g i)) := by
  intro pins s σ H x v Q I rx h
  obtain ⟨i, rfl, q⟩ := h
  obtain ⟨t, rfl⟩ := rx
  exact rule i t s _ _ ⟨.int (g i), H, I.tok _, ⟨_, rfl⟩, q⟩
theorem un_neg : UnR X (unaryOp .USub) (rU fun i => .int (-i)) := unI fun _ _ _ _ _ q => neg_int q
theorem un_inv : UnR X (unaryOp .Invert) (rU fun i => .int (Builtin.bitNot i)) := unI fun _ _ _ _ _ q => invert_int q

/-! ### bools among ints: n += (a < b) -/
theorem op_add_ib : OpR X (binaryOp .Add) (fun x y H Q => ∃ i k, x = .int i ∧ y = .bl k ∧ Q (.int (i + b2i k)) H) := by
  intro pins s σ H x y v u Q I rx ry h
  obtain ⟨i, k, rfl, rfl, q⟩ := h
  obtain ⟨t, rfl⟩ := rx
  cases ry
  exact add_int_bool ⟨.int (i + b2i k), H, I.tok _, ⟨_, rfl⟩, q⟩
end

/-! ### comparisons -/
/-- the scalars that == tells apart as data does -/
def scal : V → V → Bool
  | .non, .non => true | .non, .int _ => true | .int _, .non => true | .non, .bl _ => true | .bl _, .non => true | .non, .str _ => true | .str _, .non => true
  | .int _, .int _ => true | .bl _, .bl _ => true | .str _, .str _ => true | .byt _, .byt _ => true
  | .int _, .str _ => true | .str _, .int _ => true | .bl _, .str _ => true | .str _, .bl _ => true
  | _, _ => false
def rEq : R2 := fun x y H Q => scal x y = true ∧ Q (.bl (decide (x = y))) H
def rNe : R2 := fun x y H Q => scal x y = true ∧ Q (.bl (!decide (x = y))) H

theorem dec_int {i j : Int} : decide (V.int i = V.int j) = (i == j) := by
  rw [Bool.eq_iff_iff]
  simp
theorem dec_bl {i j : Bool} : decide (V.bl i = V.bl j) = (i == j) := by
  rw [Bool.eq_iff_iff]
  simp
theorem dec_str {i j : Str} : decide (V.str i = V.str j) = (i == j) := by
  rw [Bool.eq_iff_iff]
  simp
theorem dec_byt {i j : Array UInt8} : decide (V.byt i = V.byt j) = (i.toList == j.toList) := by
  rw [Bool.eq_iff_iff]
  cases i
  cases j
  simp

section
variable {X : Cx} {a b c : Expr} {ta tb tc : TE} {pos : Pos}
theorem fin_bl {pins : List (Addr × Obj)} {σ : St} {H : Hp} {s : Shared} {Q : VK} {k k' : Bool} (I : Inv X pins σ H s) (q : Q (.bl k) H) (e : k = k') : EP X pins σ Q (.bool k') s := by
  subst e
  exact ⟨.bl k, H, I, rfl, q⟩
theorem op_eq : OpR X (compareOp .Eq) rEq := by
  intro pins s σ H x y v u Q I rx ry h
  obtain ⟨hs, q⟩ := h
  cases x with
  | non =>
    cases rx
    cases y with
    | non => cases ry; exact PySem.EqNone.eq_none_none (fin_bl I q (by simp))
    | bl j => cases ry; exact PySem.EqNone.eq_none_bool (fin_bl I q (by simp))
    | int j => obtain ⟨t', rfl⟩ := ry; exact PySem.EqNone.eq_none_int (fin_bl I q (by simp))
    | str j => obtain ⟨t', rfl⟩ := ry; exact PySem.EqNone.eq_none_str (fin_bl I q (by simp))
    | _ => exact absurd (show false = true from hs) Bool.false_ne_true
  | bl i =>
    cases rx
    cases y with
    | non => cases ry; exact PySem.EqNone.eq_bool_none (fin_bl I q (by simp))
    | bl j => cases ry; exact eq_bool (fin_bl I q dec_bl)
    | str j => obtain ⟨t', rfl⟩ := ry; exact PySem.EqMixed.eq_bool_str (fin_bl I q (by simp))
    | _ => exact absurd (show false = true from hs) Bool.false_ne_true
  | int i =>
    obtain ⟨t, rfl⟩ := rx
    cases y with
    | non => cases ry; exact PySem.EqNone.eq_int_none (fin_bl I q (by simp))
    | int j => obtain ⟨t', rfl⟩ := ry; exact eq_int (fin_bl I q dec_int)
    | str j => obtain ⟨t', rfl⟩ := ry; exact PySem.EqMixed.eq_int_str (fin_bl I q (by simp))
    | _ => exact absurd (show false = true from hs) Bool.false_ne_true
  | str i =>
    obtain ⟨t, rfl⟩ := rx
    cases y with
    | non => cases ry; exact PySem.EqNone.eq_str_none (fin_bl I q (by simp))
    | bl j => cases ry; exact PySem.EqMixed.eq_str_bool (fin_bl I q (by simp))
    | int j => obtain ⟨t', rfl⟩ := ry; exact PySem.EqMixed.eq_str_int (fin_bl I q (by simp))
    | str j => obtain ⟨t', rfl⟩ := ry; exact eq_str (fin_bl I q dec_str)
    | _ => exact absurd (show false = true from hs) Bool.false_ne_true
  | byt i =>
    obtain ⟨t, rfl⟩ := rx
    cases y with
    | byt j => obtain ⟨t', rfl⟩ := ry; exact PySem.W.eq_bytes (fin_bl I q dec_byt)
    | _ => exact absurd (show false = true from hs) Bool.false_ne_true
  | _ => cases y <;> exact absurd (show false = true from hs) Bool.false_ne_true
theorem op_ne : OpR X (compareOp .NotEq) rNe := by
  intro pins s σ H x y v u Q I rx ry h
  obtain ⟨hs, q⟩ := h
  cases x with
  | non =>
    cases rx
    cases y with
    | non => cases ry; exact PySem.EqNone.ne_none_none (fin_bl I q (by simp))
    | bl j => cases ry; exact PySem.EqNone.ne_none_bool (fin_bl I q (by simp))
    | int j => obtain ⟨t', rfl⟩ := ry; exact PySem.EqNone.ne_none_int (fin_bl I q (by simp))
    | str j => obtain ⟨t', rfl⟩ := ry; exact PySem.EqNone.ne_none_str (fin_bl I q (by simp))
    | _ => exact absurd (show false = true from hs) Bool.false_ne_true
  | bl i =>
    cases rx
    cases y with
    | non => cases ry; exact PySem.EqNone.ne_bool_none (fin_bl I q (by simp))
    | bl j => cases ry; exact ne_bool (fin_bl I q (congrArg not dec_bl))
    | str j => obtain ⟨t', rfl⟩ := ry; exact PySem.EqMixed.ne_bool_str (fin_bl I q (by simp))
    | _ => exact absurd (show false = true from hs) Bool.false_ne_true
  | int i =>
    obtain ⟨t, rfl⟩ := rx
    cases y with
    | non => cases ry; exact PySem.EqNone.ne_int_none (fin_bl I q (by simp))
    | int j => obtain ⟨t', rfl⟩ := ry; exact ne_int (fin_bl I q (congrArg not dec_int))
    | str j => obtain ⟨t', rfl⟩ := ry; exact PySem.EqMixed.ne_int_str (fin_bl I q (by simp))
    | _ => exact absurd (show false = true from hs) Bool.false_ne_true
  | str i =>
    obtain ⟨t, rfl⟩ := rx
    cases y with
    | non => cases ry; exact PySem.EqNone.ne_str_none (fin_bl I q (by simp))
    | bl j => cases ry; exact PySem.EqMixed.ne_str_bool (fin_bl I q (by simp))
    | int j => obtain ⟨t', rfl⟩ := ry; exact PySem.EqMixed.ne_str_int (fin_bl I q (by simp))
    | str j => obtain ⟨t', rfl⟩ := ry; exact ne_str (fin_bl I q (congrArg not dec_str))
    | _ => exact absurd (show false = true from hs) Bool.false_ne_true
  | byt i =>
    obtain ⟨t, rfl⟩ := rx
    cases y with
    | byt j => obtain ⟨t', rfl⟩ := ry; exact PySem.W.ne_bytes (fin_bl I q (congrArg not dec_byt))
    | _ => exact absurd (show false = true from hs) Bool.false_ne_true
  | _ => cases y <;> exact absurd (show false = true from hs) Bool.false_ne_true

theorem op_lt : OpR X (compareOp .Lt) (rI0 fun i j => .bl (decide (i < j))) := opB0 fun _ _ _ _ _ _ _ q => lt_int q
theorem op_le : OpR X (compareOp .LtE) (rI0 fun i j => .bl (decide (i ≤ j))) := opB0 fun _ _ _ _ _ _ _ q => le_int q
theorem op_gt : OpR X (compareOp .Gt) (rI0 fun i j => .bl (decide (j < i))) := opB0 fun _ _ _ _ _ _ _ q => gt_int q
theorem op_ge : OpR X (compareOp .GtE) (rI0 fun i j => .bl (decide (j ≤ i))) := opB0 fun _ _ _ _ _ _ _ q => ge_int q
theorem op_lt_str : OpR X (compareOp .Lt) (fun x y H Q => ∃ i j, x = .str i ∧ y = .str j ∧ Q (.bl (decide (i.cps.toList < j.cps.toList))) H) := by
  intro pins s σ H x y v u Q I rx ry h
  obtain ⟨i, j, rfl, rfl, q⟩ := h
  obtain ⟨t, rfl⟩ := rx
  obtain ⟨t', rfl⟩ := ry
  exact lt_str (fin_bl I q rfl)
/-- the one string within the other -/
theorem op_in_str : OpR X (compareOp .In) (fun x y H Q => ∃ i j, x = .str i ∧ y = .str j ∧ Q (.bl (!(Builtin.Str.occurrences j i 0 j.length 1).isEmpty)) H) := by
  intro pins s σ H x y v u Q I rx ry h
  obtain ⟨i, j, rfl, rfl, q⟩ := h
  obtain ⟨t, rfl⟩ := rx
  obtain ⟨t', rfl⟩ := ry
  exact in_str (fin_bl I q rfl)

/-- is None, is not None: the right side a value none -/
theorem op_isN : OpR X (compareOp .Is) (fun x y H Q => y = .non ∧ Q (.bl (decide (x = .non))) H) := by
  intro pins s σ H x y v u Q I rx ry h
  obtain ⟨rfl, q⟩ := h
  cases ry
  refine is_none_gen (fin_bl I q ?_)
  cases x <;> first
    | (cases rx; rfl)
    | (obtain ⟨t, rfl⟩ := rx; rfl)
theorem op_notN : OpR X (compareOp .IsNot) (fun x y H Q => y = .non ∧ Q (.bl (!decide (x = .non))) H) := by
  intro pins s σ H x y v u Q I rx ry h
  obtain ⟨rfl, q⟩ := h
  cases ry
  refine isnot_none_gen (fin_bl I q ?_)
  cases x <;> first
    | (cases rx; rfl)
    | (obtain ⟨t, rfl⟩ := rx; rfl)

theorem op_notin_str : OpR X (compareOp .NotIn) (fun x y H Q => ∃ i j, x = .str i ∧ y = .str j ∧ Q (.bl (!(!(Builtin.Str.occurrences j i 0 j.length 1).isEmpty))) H) := by
  intro pins s σ H x y v u Q I rx ry h
  obtain ⟨i, j, rfl, rfl, q⟩ := h
  obtain ⟨t, rfl⟩ := rx
  obtain ⟨t', rfl⟩ := ry
  exact notIn_str (fin_bl I q rfl)
/-- is, is not of two objects that are tracked lists or instances -/
def isObj : HO → Bool
  | .lst _ => true
  | .ins _ _ _ => true
  | _ => false
theorem obj_there {pins : List (Addr × Obj)} {s : Shared} {σ : St} {H : Hp} {a : Addr} {o : HO} (I : Inv X pins σ H s) (h : H a = some o) (p : isObj o = true) : ∃ ob, s.heap.get? a = some ob ∧ ob.cls ≠ .type "tuple" := by
  cases o with
  | lst xs =>
    obtain ⟨_, its, n, _, e⟩ : xs.length ≤ sizeLine ∧ ∃ (its : List Value) (n : Nat), Vals xs its ∧ s.heap.get? a = some { cls := .type "list", data := .seq its.toArray n } := I.hok a _ h
    exact ⟨_, e, (by show Value.type "list" ≠ .type "tuple"; decide +kernel)⟩
  | ins C dx fs =>
    have x := I.hok a _ h
    obtain ⟨_, _, _, e, _⟩ := x
    exact ⟨_, e, (by show Value.ref C ≠ .type "tuple"; exact fun z => by cases z)⟩
  | _ => exact absurd (show false = true from p) Bool.false_ne_true
theorem op_is_ref : OpR X (compareOp .Is) (fun x y H Q => ∃ a b oa ob, x = .ref a ∧ y = .ref b ∧ H a = some oa ∧ isObj oa = true ∧ H b = some ob ∧ isObj ob = true ∧ Q (.bl (decide (a = b))) H) := by
  intro pins s σ H x y v u Q I rx ry h
  obtain ⟨a, b, oa, ob, rfl, rfl, ha, pa, hb, pb, q⟩ := h
  cases rx
  cases ry
  obtain ⟨o1, e1, n1⟩ := obj_there I ha pa
  obtain ⟨o2, e2, _⟩ := obj_there I hb pb
  by_cases z : a = b
  · subst z
    exact wpAny_is_ref_self (fin_bl I q (by simp))
  · exact wpAny_is_ref_other z e1 e2 n1 (fin_bl I q (by simp [z]))
theorem op_isnot_ref : OpR X (compareOp .IsNot) (fun x y H Q => ∃ a b oa ob, x = .ref a ∧ y = .ref b ∧ H a = some oa ∧ isObj oa = true ∧ H b = some ob ∧ isObj ob = true ∧ Q (.bl (!decide (a = b))) H) := by
  intro pins s σ H x y v u Q I rx ry h
  obtain ⟨a, b, oa, ob, rfl, rfl, ha, pa, hb, pb, q⟩ := h
  cases rx
  cases ry
  obtain ⟨o1, e1, n1⟩ := obj_there I ha pa
  obtain ⟨o2, e2, _⟩ := obj_there I hb pb
  by_cases z : a = b
  · subst z
    exact wpAny_isNot_ref_self (fin_bl I q (by simp))
  · exact wpAny_isNot_ref_other z e1 e2 n1 (fin_bl I q (by simp [z]))

/-- two rules for one operation: by cases -/
theorem OpR.or {f : Value → Value → Sem Value} {r r' : R2} (h : OpR X f r) (h' : OpR X f r') : OpR X f (fun x y H Q => r x y H Q ∨ r' x y H Q) := by
  intro pins s σ H x y v u Q I rx ry q
  rcases q with q | q
  · exact h pins s σ H x y v u Q I rx ry q
  · exact h' pins s σ H x y v u Q I rx ry q

theorem nomark (b : Expr) {op : CmpOp} (h : op ≠ .In := by decide) (h2 : op ≠ .NotIn := by decide) : behindInMarks op b = false := by
  have e1 : (op == CmpOp.In) = false := by cases op <;> first | rfl | exact absurd rfl h
  have e2 : (op == CmpOp.NotIn) = false := by cases op <;> first | rfl | exact absurd rfl h2
  cases b <;> simp [behindInMarks, e1, e2]
/-- a comparison as a value; hm: nomark b, or (for in, not in) by with_unfolding_all rfl -/
theorem pe_cmpR {op : CmpOp} {r : R2} (ho : OpR X (compareOp op) r) (ha : PE X a ta) (hb : PE X b tb) (hm : behindInMarks op b = false) : PE X (.Compare a [op] [b] pos) (tOp r ta tb) := by
  intro pins s σ H Q I h
  exact wpAny_Compare1 (binT ha hb I h fun v u s2 x y H2 I2 rx ry q => ho pins s2 σ H2 x y v u Q I2 rx ry q) hm
/-- a reading of a value as a test -/
def tTest (t : TE) : TT := fun σ H Q => t σ H fun x H' => ∃ k, x = .bl k ∧ Q k H'
theorem pt_cmpR {op : CmpOp} {r : R2} (ho : OpR X (compareOp op) r) (ha : PE X a ta) (hb : PE X b tb) (hm : behindInMarks op b = false) : PT X (.Compare a [op] [b] pos) (tTest (tOp r ta tb)) := by
  intro pins s σ H Q I h
  refine wpAny_isTrue_Compare1 (thn (ha pins s σ H _ I h) fun v s1 ⟨x, H1, I1, r1, q1⟩ => thn (hb pins s1 σ H1 _ I1 q1) fun u s2 ⟨y, H2, I2, r2, q2⟩ =>
    thn (ho pins s2 σ H2 x y v u _ I2 r1 r2 q2) fun c s3 ⟨z, H3, I3, r3, k, e, q3⟩ => ?_) hm
  subst e
  cases r3
  exact wpAny_truthy_bool ⟨H3, I3, q3⟩
/-- a op1 b op2 c -/
def tChain (r r' : R2) (ta tb tc : TE) : TE := fun σ H Q => ta σ H fun x H1 => tb σ H1 fun y H2 => r x y H2 fun z H3 => ∃ k, z = .bl k ∧
  (if k = true then tc σ H3 fun w' H4 => r' y w' H4 Q else Q (.bl false) H3)
theorem pe_chain {op op' : CmpOp} {r r' : R2} (ho : OpR X (compareOp op) r) (ho' : OpR X (compareOp op') r') (ha : PE X a ta) (hb : PE X b tb) (hc : PE X c tc)
    (hm : lastMarks [op, op'] [b, c] = false := by with_unfolding_all rfl) : PE X (.Compare a [op, op'] [b, c] pos) (tChain r r' ta tb tc) := by
  intro pins s σ H Q I h
  refine Compare_chain (thn (ha pins s σ H _ I h) fun v s1 ⟨x, H1, I1, r1, q1⟩ => chain_link (thn (hb pins s1 σ H1 _ I1 q1) fun u s2 ⟨y, H2, I2, r2, q2⟩ =>
    thn (ho pins s2 σ H2 x y v u _ I2 r1 r2 q2) fun d s3 ⟨z, H3, I3, r3, k, e, q3⟩ => ?_)) hm
  subst e
  cases r3
  refine wpAny_truthy_bool ?_
  cases k with
  | false => exact ite_ff ⟨.bl false, H3, I3, rfl, q3⟩
  | true => exact ite_tt (chain_last (thn (hc pins s3 σ H3 _ I3 q3) fun w' s4 ⟨z', H4, I4, r4, q4⟩ => ho' pins s4 σ H4 y z' u w' Q I4 r2 r4 q4))
theorem pt_chain {op op' : CmpOp} {r r' : R2} (ho : OpR X (compareOp op) r) (ho' : OpR X (compareOp op') r') (ha : PE X a ta) (hb : PE X b tb) (hc : PE X c tc)
    (hm : lastMarks [op, op'] [b, c] = false := by with_unfolding_all rfl) : PT X (.Compare a [op, op'] [b, c] pos) (tTest (tChain r r' ta tb tc)) := by
  intro pins s σ H Q I h
  refine isTrue_chain (thn (ha pins s σ H _ I h) fun v s1 ⟨x, H1, I1, r1, q1⟩ => test_link (thn (hb pins s1 σ H1 _ I1 q1) fun u s2 ⟨y, H2, I2, r2, q2⟩ =>
    thn (ho pins s2 σ H2 x y v u _ I2 r1 r2 q2) fun d s3 ⟨z, H3, I3, r3, k, e, q3⟩ => ?_)) hm
  subst e
  cases r3
  refine wpAny_truthy_bool ?_
  cases k with
  | false =>
    obtain ⟨k', e', q'⟩ := q3
    cases e'
    exact ite_ff ⟨H3, I3, q'⟩
  | true =>
    refine ite_tt (test_last (thn (hc pins s3 σ H3 _ I3 q3) fun w' s4 ⟨z', H4, I4, r4, q4⟩ => thn (ho' pins s4 σ H4 y z' u w' _ I4 r2 r4 q4) fun d' s5 ⟨z2, H5, I5, r5, k2, e2, q5⟩ => ?_))
    subst e2
    cases r5
    exact wpAny_truthy_bool ⟨H5, I5, q5⟩

/-! ### truth -/
/-- a value's truth by the abstract heap -/
def TruV (K : PySem.W.Frag) (x : V) (H : Hp) (k : Bool) : Prop :=
  match x with
  | .non => k = false
  | .bl b => k = b
  | .int i => k = (i != 0)
  | .str y => y.length ≤ sizeLine ∧ k = ((y.length : Int) != 0)
  | .byt y => y.size ≤ sizeLine ∧ k = ((y.size : Int) != 0)
  | .ref p => (∃ xs, SqL K H p xs ∧ k = !xs.isEmpty) ∨ (∃ xs, SqT K H p xs ∧ k = !xs.isEmpty) ∨ ∃ kvs, H p = some (.dK kvs) ∧ k = !kvs.isEmpty
  | _ => False
theorem isEmpty_kv {κ : Type} {kvs : List (κ × V)} {vs : List (κ × Value)} (r : KV kvs vs) : (!vs.isEmpty) = !kvs.isEmpty := by
  cases r <;> rfl
theorem isEmpty_of {xs : List V} {its : List Value} (r : Vals xs its) : (!its.toArray.isEmpty) = !xs.isEmpty := by
  cases r <;> simp
theorem line63 : (sizeLine : Nat) < 2 ^ 63 := by rw [sizeLine_eq]; decide
theorem tru_ok : TruR X (fun x H Q => ∃ k, TruV X.K x H k ∧ Q k H) := by
  intro pins s σ H x v Q I rx h
  obtain ⟨k, e, q⟩ := h
  have hl := line63
  have hs : sizeLine = 16777216 := sizeLine_eq
  cases x with
  | non =>
    cases rx
    have e' : k = false := e
    subst e'
    exact truthy_none ⟨H, I, q⟩
  | bl b =>
    cases rx
    have e' : k = b := e
    subst e'
    exact wpAny_truthy_bool ⟨H, I, q⟩
  | int i =>
    obtain ⟨t, rfl⟩ := rx
    have e' : k = (i != 0) := e
    subst e'
    exact PySem.P.truthy_int ⟨H, I, q⟩
  | str y =>
    obtain ⟨t, rfl⟩ := rx
    obtain ⟨hy, e'⟩ : y.length ≤ sizeLine ∧ k = ((y.length : Int) != 0) := e
    subst e'
    exact PySem.P.truthy_str (by omega) ⟨H, I.tok _, q⟩
  | byt y =>
    obtain ⟨t, rfl⟩ := rx
    obtain ⟨hy, e'⟩ : y.size ≤ sizeLine ∧ k = ((y.size : Int) != 0) := e
    subst e'
    exact PySem.W.truthy_bytes (by omega) ⟨H, I.tok _, q⟩
  | ref p =>
    cases rx
    have e' : (∃ xs, SqL X.K H p xs ∧ k = !xs.isEmpty) ∨ (∃ xs, SqT X.K H p xs ∧ k = !xs.isEmpty) ∨ ∃ kvs, H p = some (.dK kvs) ∧ k = !kvs.isEmpty := e
    rcases e' with ⟨xs, hx, e'⟩ | ⟨xs, hx, e'⟩ | ⟨kvs, hx, e'⟩
    · subst e'
      obtain ⟨its, r, pl, hz⟩ := I.list hx
      have hlen := r.length
      exact wpAny_truthy_list pl.isList (by simp only [List.size_toArray]; omega) ⟨H, I.tok _, by rw [isEmpty_of r]; exact q⟩
    · subst e'
      obtain ⟨its, r, pl, hz⟩ := I.tuple hx
      have hlen := r.length
      exact truthy_tuple pl (by simp only [List.size_toArray]; omega) ⟨H, I.tok _, by rw [isEmpty_of r]; exact q⟩
    · subst e'
      obtain ⟨hz, hS, vs, r, m⟩ : kvs.length ≤ sizeLine ∧ (p == sysModules) = false ∧ ∃ vs, KV kvs vs ∧ s.heap.DictOf (mixKind X.prog X.w) p vs := I.hok p _ hx
      have hlen : kvs.length = vs.length := Paired.length r
      exact wpAny_truthy_dict hS m (by omega) ⟨H, I.tok _, by rw [isEmpty_kv r]; exact q⟩
  | _ => exact (show False from e).elim
/-- any expression whose test is its value's truth (a name, a call, a subscript, a field ..: he by fun _ => rfl) -/
theorem pt_truth (ha : PE X a ta) (he : ∀ whole, isTrue a X.env whole = (do let v ← whole; standAt a.pos; holding [v] (truthy v))) :
    PT X a (fun σ H Q => ta σ H fun x H' => ∃ k, TruV X.K x H' k ∧ Q k H') := by
  intro pins s σ H Q I h
  exact isTrue_plain (thn (ha pins s σ H _ I h) fun v s1 ⟨x, H1, I1, r1, q1⟩ => tru_ok pins s1 σ H1 x v Q I1 r1 q1) (he _)

/-! ### strs and bytes -/
theorem pe_byt {x : List UInt8} {k : Nat} : PE X (.Constant (.bytes x) k pos) (fun _ H Q => Q (.byt x.toArray) H) := fun _ _ _ H _ I h => PySem.W.Constant_bytes ⟨.byt x.toArray, H, I.tok _, ⟨_, rfl⟩, h⟩
theorem op_add_str : OpR X (binaryOp .Add) (fun x y H Q => ∃ i j, x = .str i ∧ y = .str j ∧ i.length + j.length ≤ sizeLine ∧ Q (.str (i ++ j)) H) := by
  intro pins s σ H x y v u Q I rx ry h
  obtain ⟨i, j, rfl, rfl, hz, q⟩ := h
  obtain ⟨t, rfl⟩ := rx
  obtain ⟨t', rfl⟩ := ry
  exact add_str (fun t' tk => ⟨.str (i ++ j), H, I.tok _, ⟨_, rfl⟩, q⟩) hz
theorem iop_add_str : OpR X (inplaceOp .Add) (fun x y H Q => ∃ i j, x = .str i ∧ y = .str j ∧ i.length + j.length ≤ sizeLine ∧ Q (.str (i ++ j)) H) := by
  intro pins s σ H x y v u Q I rx ry h
  obtain ⟨i, j, rfl, rfl, hz, q⟩ := h
  obtain ⟨t, rfl⟩ := rx
  obtain ⟨t', rfl⟩ := ry
  exact iadd_str (fun t' tk => ⟨.str (i ++ j), H, I.tok _, ⟨_, rfl⟩, q⟩) hz
theorem op_add_byt : OpR X (binaryOp .Add) (fun x y H Q => ∃ i j, x = .byt i ∧ y = .byt j ∧ i.size + j.size ≤ 16777216 ∧ Q (.byt (i ++ j)) H) := by
  intro pins s σ H x y v u Q I rx ry h
  obtain ⟨i, j, rfl, rfl, hz, q⟩ := h
  obtain ⟨t, rfl⟩ := rx
  obtain ⟨t', rfl⟩ := ry
  exact PySem.W.KBy.add_bytes hz (fun t' tk => ⟨.byt (i ++ j), H, I.tok _, ⟨_, rfl⟩, q⟩)

def PlainIxT (b : Expr) : Prop := ∀ o i, subscripted b false o i = operate [o, i] (getItem o i)
/-- s[i], 0 ≤ i < len -/
theorem pe_item_str (ha : PE X a ta) (hb : PE X b tb) (hs : PlainIxT b) :
    PE X (.Subscript a b pos) (tOp (fun x y H Q => ∃ z i c, x = .str z ∧ y = .int i ∧ 0 ≤ i ∧ i < 2 ^ 63 ∧ i < z.length ∧ z.cps[i.toNat]? = some c ∧ Q (.str ⟨#[c]⟩) H) ta tb) := by
  intro pins s σ H Q I h
  refine Subscript_ (binT ha hb I h fun v u s2 x y H2 I2 rx ry q => ?_)
  obtain ⟨z, i, c, rfl, rfl, h0, h63, h1, hc, q⟩ := q
  obtain ⟨t, rfl⟩ := rx
  obtain ⟨t', rfl⟩ := ry
  have e : seqIndex? i z.length = some i.toNat := PySem.StrLaws.seqIndex_nonneg h0 h1
  exact tail_any (typeIs_str s2 z t) slot_str_getitem.lookup (getItem_str (c := c) (by
    have e1 : decide (i < -(2 ^ 63 : Int)) = false := decide_eq_false (by omega)
    have e2 : decide (i ≥ 2 ^ 63) = false := decide_eq_false (by omega)
    rw [e1, e2] <;> rfl) (by rw [e]; exact hc) ⟨.str ⟨#[c]⟩, H2, I2.tok _, ⟨_, rfl⟩, q⟩) (hs _ _)
/-- b[i], 0 ≤ i < len -/
theorem pe_item_byt (ha : PE X a ta) (hb : PE X b tb) (hs : PlainIxT b) :
    PE X (.Subscript a b pos) (tOp (fun x y H Q => ∃ (z : List UInt8) (i : Int), x = .byt z.toArray ∧ y = .int i ∧ z.length ≤ sizeLine ∧ 0 ≤ i ∧ i < z.length ∧ Q (.int ((z.getD i.toNat 0).toNat : Nat)) H) ta tb) := by
  intro pins s σ H Q I h
  refine Subscript_ (binT ha hb I h fun v u s2 x y H2 I2 rx ry q => ?_)
  obtain ⟨z, i, rfl, rfl, hz, h0, h1, q⟩ := q
  obtain ⟨t, rfl⟩ := rx
  obtain ⟨t', rfl⟩ := ry
  have hl : sizeLine = 16777216 := sizeLine_eq
  exact tail_any (PySem.W.typeIs_bytes s2 z.toArray t) PySem.W.FB.slot_bytes_getitem.lookup (PySem.W.getItem_bytes (by omega) h0 h1 ⟨.int ((z.getD i.toNat 0).toNat : Nat), H2, I2.tok _, ⟨_, rfl⟩, q⟩) (hs _ _)

/-! ### scalar builtins, by CallR -/
theorem vals1 {x : V} {us : List Value} (r : Vals [x] us) : ∃ u, us = [u] ∧ RelV x u := by
  cases r with
  | cons r1 r2 => cases r2; exact ⟨_, rfl, r1⟩
theorem vals2 {x y : V} {us : List Value} (r : Vals [x, y] us) : ∃ u w', us = [u, w'] ∧ RelV x u ∧ RelV y w' := by
  cases r with
  | cons r1 r2 =>
    cases r2 with
    | cons r3 r4 => cases r4; exact ⟨_, _, rfl, r1, r3⟩
theorem call_abs : CallR X (.builtin "abs") (fun xs H Q => ∃ i, xs = [.int i] ∧ Q (.int (if i < 0 then -i else i)) H) := by
  intro pins s σ H xs us Q I r h
  obtain ⟨i, rfl, q⟩ := h
  obtain ⟨u, rfl, t, rfl⟩ := vals1 r
  exact call_abs_int fun u tk => ⟨.int (if i < 0 then -i else i), H, I.tok _, ⟨_, rfl⟩, q⟩
theorem call_max2 (hc : X.calm = true) : CallR X (.builtin "max") (fun xs H Q => ∃ i j, xs = [.int i, .int j] ∧ Q (.int (if j > i then j else i)) H) := by
  intro pins s σ H xs us Q I r h
  obtain ⟨i, j, rfl, q⟩ := h
  obtain ⟨u, w', rfl, ⟨t, rfl⟩, ⟨t', rfl⟩⟩ := vals2 r
  refine max_two_ints (I.ok.hd hc) fun h' tk k => ⟨_, H, I.kept k, ?_, q⟩
  by_cases hj : j > i
  · rw [if_pos hj, if_pos hj]; exact ⟨_, rfl⟩
  · rw [if_neg hj, if_neg hj]; exact ⟨_, rfl⟩
theorem call_min2 (hc : X.calm = true) : CallR X (.builtin "min") (fun xs H Q => ∃ i j, xs = [.int i, .int j] ∧ Q (.int (if j < i then j else i)) H) := by
  intro pins s σ H xs us Q I r h
  obtain ⟨i, j, rfl, q⟩ := h
  obtain ⟨u, w', rfl, ⟨t, rfl⟩, ⟨t', rfl⟩⟩ := vals2 r
  refine min_two_ints (I.ok.hd hc) fun h' tk k => ⟨_, H, I.kept k, ?_, q⟩
  by_cases hj : j < i
  · rw [if_pos hj, if_pos hj]; exact ⟨_, rfl⟩
  · rw [if_neg hj, if_neg hj]; exact ⟨_, rfl⟩
theorem call_int1 : CallR X (.type "int") (fun xs H Q => (∃ i, xs = [.int i] ∧ Q (.int i) H) ∨ ∃ k, xs = [.bl k] ∧ Q (.int (if k then 1 else 0)) H) := by
  intro pins s σ H xs us Q I r h
  rcases h with ⟨i, rfl, q⟩ | ⟨k, rfl, q⟩
  · obtain ⟨u, rfl, t, rfl⟩ := vals1 r
    exact call_int_int ⟨.int i, H, I, ⟨_, rfl⟩, q⟩
  · obtain ⟨u, rfl, r1⟩ := vals1 r
    cases r1
    exact call_int_bool ⟨.int (if k then 1 else 0), H, I.tok _, ⟨_, rfl⟩, q⟩
theorem call_bool1 : CallR X (.type "bool") (fun xs H Q => (∃ i, xs = [.int i] ∧ Q (.bl (i != 0)) H) ∨ ∃ k, xs = [.bl k] ∧ Q (.bl k) H) := by
  intro pins s σ H xs us Q I r h
  rcases h with ⟨i, rfl, q⟩ | ⟨k, rfl, q⟩
  · obtain ⟨u, rfl, t, rfl⟩ := vals1 r
    exact call_bool_int ⟨.bl (i != 0), H, I, rfl, q⟩
  · obtain ⟨u, rfl, r1⟩ := vals1 r
    cases r1
    exact call_bool_bool ⟨.bl k, H, I, rfl, q⟩
theorem call_str_int : CallR X (.type "str") (fun xs H Q => ∃ i, xs = [.int i] ∧ i.natAbs.log2 < 1920 ∧ Q (.str (toString i)) H) := by
  intro pins s σ H xs us Q I r h
  obtain ⟨i, rfl, hz, q⟩ := h
  obtain ⟨u, rfl, t, rfl⟩ := vals1 r
  exact PySem.P.str_of_int hz ⟨.str _, H, I.tok _, ⟨_, rfl⟩, q⟩
theorem call_ord : CallR X (.builtin "ord") (fun xs H Q => ∃ x, xs = [.str x] ∧ x.length = 1 ∧ Q (.int (x.cps.getD 0 0 : Nat)) H) := by
  intro pins s σ H xs us Q I r h
  obtain ⟨x, rfl, hz, q⟩ := h
  obtain ⟨u, rfl, t, rfl⟩ := vals1 r
  exact ord_of_one hz ⟨.int _, H, I.tok _, ⟨_, rfl⟩, q⟩
theorem call_chr : CallR X (.builtin "chr") (fun xs H Q => ∃ i, xs = [.int i] ∧ 0 ≤ i ∧ i ≤ 1114111 ∧ Q (.str ⟨#[i.toNat]⟩) H) := by
  intro pins s σ H xs us Q I r h
  obtain ⟨i, rfl, h0, h1, q⟩ := h
  obtain ⟨u, rfl, t, rfl⟩ := vals1 r
  exact chr_of_range h0 h1 ⟨.str _, H, I.tok _, ⟨_, rfl⟩, q⟩
/-- len of a str, a bytes, a list, a tuple -/
def LenV (K : PySem.W.Frag) (x : V) (H : Hp) (n : Nat) : Prop :=
  match x with
  | .str y => y.length ≤ sizeLine ∧ n = y.length
  | .byt y => y.size ≤ sizeLine ∧ n = y.size
  | .ref p => (∃ xs, SqL K H p xs ∧ n = xs.length) ∨ ∃ xs, SqT K H p xs ∧ n = xs.length
  | _ => False
theorem call_len : CallR X (.builtin "len") (fun xs H Q => ∃ x n, xs = [x] ∧ LenV X.K x H n ∧ Q (.int n) H) := by
  intro pins s σ H xs us Q I r h
  obtain ⟨x, n, rfl, e, q⟩ := h
  obtain ⟨u, rfl, rx⟩ := vals1 r
  have hl := line63
  have hs : sizeLine = 16777216 := sizeLine_eq
  cases x with
  | str y =>
    obtain ⟨t, rfl⟩ := rx
    obtain ⟨hy, e'⟩ : y.length ≤ sizeLine ∧ n = y.length := e
    subst e'
    exact len_str (by omega) ⟨.int _, H, I.tok _, ⟨_, rfl⟩, q⟩
  | byt y =>
    obtain ⟨t, rfl⟩ := rx
    obtain ⟨hy, e'⟩ : y.size ≤ sizeLine ∧ n = y.size := e
    subst e'
    exact PySem.W.len_bytes (by omega) ⟨.int _, H, I.tok _, ⟨_, rfl⟩, q⟩
  | ref p =>
    cases rx
    have e' : (∃ xs, SqL X.K H p xs ∧ n = xs.length) ∨ ∃ xs, SqT X.K H p xs ∧ n = xs.length := e
    rcases e' with ⟨xs, hx, e'⟩ | ⟨xs, hx, e'⟩
    · subst e'
      obtain ⟨its, r', pl, hz⟩ := I.list hx
      have hlen := r'.length
      exact Calls.call_len_list pl.isList (by simp only [List.size_toArray]; omega) ⟨.int xs.length, H, I.tok _, ⟨_, by simp only [List.size_toArray]; rw [hlen]⟩, q⟩
    · subst e'
      obtain ⟨its, r', pl, hz⟩ := I.tuple hx
      have hlen := r'.length
      exact len_tuple pl (by simp only [List.size_toArray]; omega) ⟨.int xs.length, H, I.tok _, ⟨_, by simp only [List.size_toArray]; rw [hlen]⟩, q⟩
  | _ => exact (show False from e).elim
/-- divmod: a new tuple -/
theorem call_divmod : CallR X (.builtin "divmod") (fun xs H Q => ∃ i j, xs = [.int i, .int j] ∧ CDiv i j ∧ ∀ p, H p = none → Q (.ref p) (upd H p (.tup [.int (i / j), .int (i % j)]))) := by
  intro pins s σ H xs us Q I r h
  obtain ⟨i, j, rfl, ⟨h1, h2⟩, q⟩ := h
  obtain ⟨u, w', rfl, ⟨t, rfl⟩, ⟨t', rfl⟩⟩ := vals2 r
  refine divmod_int (by omega) ?_ (.inl (PyProof.noPylong_small (by omega)))
  rw [Int.fdiv_eq_ediv_of_nonneg i (by omega), Int.fmod_eq_emod_of_nonneg i (by omega)]
  have hn : H s.heap.objs.size = none := I.hok.fresh (Nat.le_refl _)
  refine ⟨.ref s.heap.objs.size, _, ?_, rfl, q _ hn⟩
  refine I.laid (fun b o e => Heap.get?_push_of_some _ e) (Nat.le_refl _) ⟨by simp only [List.length_cons, List.length_nil]; rw [sizeLine_eq]; decide, [.int (i / j) s.toks, .int (i % j) (s.toks + 1)], .cons ⟨_, rfl⟩ (.cons ⟨_, rfl⟩ .nil), ?_⟩
  exact ⟨_, Heap.get?_push_size s.heap rfl, rfl, 0, rfl⟩
end
end L2

namespace L2
open PySem PySem.Spec PyProof.Rows

/-! ### an instance, its attributes a map -/
structure ObjM (h : Heap) (x dx C : Addr) (mA : Str → Option Value) : Prop where
  obj : h.get? x = some (PySem.W.instObj C dx)
  ns : h.Ns1 dx mA
  ne : dx ≠ x

theorem lookIn_ns {h : Heap} {dx : Addr} {mA : Str → Option Value} (n : h.Ns1 dx mA) : ∃ od, h.get? dx = some od ∧ ∀ name, PySem.W.lookIn name od = some (mA name) := by
  obtain ⟨o, es, ep, ho, hd, hk, _, hm⟩ := n
  refine ⟨o, ho, fun name => ?_⟩
  have e := hm name
  unfold nsFind findBy at e
  rw [← Array.find?_toList] at e
  unfold PySem.W.lookIn
  rw [hd]
  dsimp only
  split
  · rename_i y q
    rw [q] at e
    exact congrArg some e
  · rename_i q
    rw [q] at e
    have a : es.toList.any (·.refKey) = false := by
      rw [List.any_eq_false]
      intro y hy
      obtain ⟨z, t, hkey⟩ := hk y (Array.mem_toList_iff.mp hy)
      simp [DictEntry.refKey, hkey]
    have a' : ¬ es.toList.any (·.refKey) = true := by rw [a]; exact Bool.false_ne_true
    rw [if_neg a']
    exact congrArg some e

theorem ObjM.look {h : Heap} {x dx C : Addr} {mA : Str → Option Value} (I : ObjM h x dx C mA) : ∃ od, PySem.W.InstAt h x (PySem.W.instObj C dx) C (some od) ∧ ∀ name, PySem.W.lookIn name od = some (mA name) :=
  let ⟨od, ho, hl⟩ := lookIn_ns I.ns
  ⟨od, ⟨I.obj, rfl, rfl, ho⟩, hl⟩

section
variable {prog : Program} {w : World} {A : Around} {E : Value → Shared → Prop} {s : Shared} {K : PySem.W.Frag} {x dx C f : Addr} {mA : Str → Option Value} {name : Str} {v : Value}

theorem get_map {expr : Bool} {Q : Value → Shared → Prop} (X : K.In s.heap) (I : ObjM s.heap x dx C mA) (hg : PySem.W.plainGet K C name = true) (hh : PySem.W.hasDictIn K C = true)
    (ha : PySem.W.findIn K (.ref C) name = some none) (hv : mA name = some v) (hv' : PySem.W.handedIn v = true) (h : Q v { s with toks := s.toks + 1 }) :
    wpAny (model prog w) A (getAttr (.ref x) name expr) Q E s := by
  obtain ⟨od, J, hl⟩ := I.look
  exact PySem.W.get_value X J (PySem.W.plainGet_of hg).1 (PySem.W.findObj_own hh ha rfl (by rw [hl, hv])) hv' h

theorem get_const {expr : Bool} {a : Value} {Q : Value → Shared → Prop} (X : K.In s.heap) (I : ObjM s.heap x dx C mA) (hg : PySem.W.plainGet K C name = true) (hh : PySem.W.hasDictIn K C = true)
    (ha : PySem.W.findIn K (.ref C) name = some (some a)) (hn : PySem.W.specialIn K a "__get__" = some none) (hc : PySem.W.copiedNames.contains name = false) (hv : mA name = none) (hv' : PySem.W.handedIn a = true)
    (h : Q a { s with toks := s.toks + 1 }) : wpAny (model prog w) A (getAttr (.ref x) name expr) Q E s := by
  obtain ⟨od, J, hl⟩ := I.look
  exact PySem.W.get_value X J (PySem.W.plainGet_of hg).1 (PySem.W.findObj_cls hh ha hn hv' hc (by rw [hl, hv])) hv' h

theorem get_meth {pl : Sem Bool} {Q : Value × List Value → Shared → Prop} (X : K.In s.heap) (I : ObjM s.heap x dx C mA) (hg : PySem.W.plainGet K C name = true)
    (hf : PySem.W.findIn K (.ref C) name = some (some (.ref f))) (ht : PySem.W.isFn K (.ref f) = true) (hv : mA name = none) (h : Q (.ref f, [.ref x]) s) :
    wpAny (model prog w) A (getMethod (.ref x) name pl) Q E s := by
  obtain ⟨od, J, hl⟩ := I.look
  exact PySem.W.method_fn X J (PySem.W.plainGet_of hg).1 (PySem.W.plainGet_of hg).2 hf (beq_iff_eq.mp ht) (by show (PySem.W.lookIn name od).map (·.isSome) = some false; rw [hl, hv]; rfl) h

theorem set_map {ns : List Str} {Q : Unit → Shared → Prop} (X : K.In s.heap) (I : ObjM s.heap x dx C mA)
    (hs : PySem.W.findIn K (.ref C) "__setattr__" = some (some (.builtin "object.__setattr__"))) (hp : PySem.W.plainOver K C = true) (ht : PySem.W.takerIn K C name = some none) (hh : PySem.W.hasDictIn K C = true)
    (hw : PySem.Within mA ns) (hsz : ns.length ≤ sizeLine)
    (h : ∀ h', ObjM h' x dx C (fun y => if y = name then some v else mA y) → Heap.SameBut dx s.heap h' → Q () { s with heap := h', toks := s.toks + 2 }) :
    wpAny (model prog w) A (setAttr (.ref x) name v) Q E s := by
  obtain ⟨od, J, hl⟩ := I.look
  refine PySem.W.set_plain X J hs (PySem.W.osa_open (s := { s with toks := s.toks + 1 }) (r := none) X J hp ht fun b => ?_)
  obtain ⟨cd, hc, hd'⟩ := PySem.W.any_some hh
  have hx : s.heap.get? x = some ⟨.ref C, some dx, .plain, #[]⟩ := I.obj
  refine wpAny_bind (wpAny_pure (wpAny_bind (wpAny_bind (wpAny_loadPart hx (wpAny_bind (PySem.W.Looks.here (s := { s with toks := s.toks + 1 }) (PySem.W.looks_clsIn X hc) ?_))))))
  rw [hd']
  refine wpAny_pure (a := some dx) (wpAny_bind (wpAny_pure (wpAny_bind ?_)))
  refine wpAny_nsSet1 (s := { s with toks := s.toks + 1 }) I.ns fun h' hn2 hs2 => ?_
  obtain ⟨oD, esD, epD, hoD, hdD, hcD⟩ := hn2.count (PySem.Within.cons name v hw)
  refine wpAny_bind (wpAny_lookBehind hoD (by rw [hdD]; exact pastItsLine_dict (Nat.le_trans hcD (by rw [List.length_cons]; omega))) ?_)
  exact wpAny_pure (h _ ⟨(hs2.2 _ (Ne.symm I.ne)).trans I.obj, hn2, I.ne⟩ hs2)

/-- C(..): the dict at the heap's end, the instance behind it; then its __init__ -/
theorem make_map {R : Result → Shared → Prop} {vs : List Value} {kw : List (Str × Value)} (X : K.In s.heap) (hm : PySem.W.makesIn K C = true)
    (hi : PySem.W.findIn K (.ref C) "__init__" = some (some (.ref f))) (hf : PySem.W.typeIn K (.ref f) = some (.type "function"))
    (h : codeAny (model prog w) (A.under (.builtin "type.__call__" ⟨.ref C :: vs, kw⟩)) (.call (.ref f) ⟨.ref (s.heap.objs.size + 1) :: vs, kw⟩) (PySem.W.InitBack (s.heap.objs.size + 1) R)
      { s with heap := (s.heap.push PySem.W.emptyDict).push (PySem.W.instObj C s.heap.objs.size) }) :
    codeAny (model prog w) A (.call (.ref C) ⟨vs, kw⟩) R s := by
  obtain ⟨hh, g, d, t, os⟩ := s
  exact PySem.W.make_core (PySem.W.makes_of X hm) (PySem.W.looks_findIn X hi) (fun self => PySem.W.bind_fn X self hf) (.inl rfl) h
/-- C() where there is no __init__ but object's -/
theorem make_map0 {R : Result → Shared → Prop} (X : K.In s.heap) (hm : PySem.W.makesIn K C = true)
    (hi : PySem.W.findIn K (.ref C) "__init__" = some (some (.builtin "object.__init__")))
    (hb : ∀ self, PySem.W.Looks (model prog w) s.heap (bindSpecial (.builtin "object.__init__") self) (.builtin "object.__init__", [self]))
    (h : codeAny (model prog w) (A.under (.builtin "type.__call__" ⟨[.ref C], []⟩)) (.call (.builtin "object.__init__") ⟨[.ref (s.heap.objs.size + 1)], []⟩) (PySem.W.InitBack (s.heap.objs.size + 1) R)
      { s with heap := (s.heap.push PySem.W.emptyDict).push (PySem.W.instObj C s.heap.objs.size) }) :
    codeAny (model prog w) A (.call (.ref C) ⟨[], []⟩) R s := by
  obtain ⟨hh, g, d, t, os⟩ := s
  exact PySem.W.make_core (PySem.W.makes_of X hm) (PySem.W.looks_findIn X hi) hb (.inr ⟨rfl, rfl⟩) h
end

/-! ### the attributes as a list of pairs -/
def putF (f : Str) (v : V) : List (Str × V) → List (Str × V)
  | [] => [(f, v)]
  | (g, x) :: r => if g = f then (g, v) :: r else (g, x) :: putF f v r
theorem lookup_putF (f g : Str) (v : V) : ∀ fs : List (Str × V), (putF f v fs).lookup g = if g = f then some v else fs.lookup g
  | [] => by
    show List.lookup g [(f, v)] = _
    by_cases h : g = f
    · have hb : (g == f) = true := beq_iff_eq.mpr h
      simp only [List.lookup, hb, if_pos h]
    · have hb : (g == f) = false := beq_eq_false_iff_ne.mpr h
      simp only [List.lookup, hb, if_neg h]
  | (k, x) :: r => by
    have ih := lookup_putF f g v r
    rw [show putF f v ((k, x) :: r) = (if k = f then (k, v) :: r else (k, x) :: putF f v r) from rfl]
    by_cases hk : k = f
    · rw [if_pos hk]
      by_cases h : g = k
      · have hb : (g == k) = true := beq_iff_eq.mpr h
        simp only [List.lookup, hb, if_pos (h.trans hk)]
      · have hb : (g == k) = false := beq_eq_false_iff_ne.mpr h
        simp only [List.lookup, hb, if_neg (fun e : g = f => h (e.trans hk.symm))]
    · rw [if_neg hk]
      by_cases h : g = k
      · have hb : (g == k) = true := beq_iff_eq.mpr h
        simp only [List.lookup, hb, if_neg (fun e : g = f => hk (h.symm.trans e))]
      · have hb : (g == k) = false := beq_eq_false_iff_ne.mpr h
        simp only [List.lookup, hb]
        exact ih
theorem keys_putF (f : Str) (v : V) : ∀ fs : List (Str × V), f ∈ (putF f v fs).map (·.1) ∧ ∀ g, g ∈ fs.map (·.1) → g ∈ (putF f v fs).map (·.1)
  | [] => ⟨by simp [putF], fun g h => by simp at h⟩
  | (k, x) :: r => by
    obtain ⟨i1, i2⟩ := keys_putF f v r
    rw [show putF f v ((k, x) :: r) = (if k = f then (k, v) :: r else (k, x) :: putF f v r) from rfl]
    by_cases hk : k = f
    · rw [if_pos hk]
      subst hk
      exact ⟨by simp, fun g h => by simpa using h⟩
    · rw [if_neg hk]
      refine ⟨?_, fun g h => ?_⟩
      · rw [List.map_cons]
        exact List.mem_cons_of_mem _ i1
      · rw [List.map_cons] at h ⊢
        rcases List.mem_cons.mp h with e | e
        · exact List.mem_cons.mpr (.inl e)
        · exact List.mem_cons_of_mem _ (i2 g e)
theorem length_putF (f : Str) (v : V) : ∀ fs : List (Str × V), (putF f v fs).length ≤ fs.length + 1
  | [] => by simp [putF]
  | (k, x) :: r => by
    have ih := length_putF f v r
    rw [show putF f v ((k, x) :: r) = (if k = f then (k, v) :: r else (k, x) :: putF f v r) from rfl]
    by_cases hk : k = f
    · rw [if_pos hk, List.length_cons, List.length_cons]; omega
    · rw [if_neg hk, List.length_cons, List.length_cons]; omega

theorem RelO.some_of {v : V} {o : Option Value} (r : RelO (some v) o) : ∃ u, o = some u ∧ RelV v u := by
  cases o with
  | none => exact (show False from r).elim
  | some u => exact ⟨u, rfl, r⟩
theorem RelO.none_of {o : Option Value} (r : RelO none o) : o = none := by
  cases o with
  | none => rfl
  | some u => exact (show False from r).elim
theorem handed_of {v : V} {u : Value} (r : RelV v u) : PySem.W.handedIn u = true := by
  cases v with
  | non => cases (show u = Value.none from r); rfl
  | bl b => cases (show u = Value.bool b from r); rfl
  | int i => obtain ⟨t, e⟩ := (show ∃ t, u = Value.int i t from r); cases e; rfl
  | str x => obtain ⟨t, e⟩ := (show ∃ t, u = Value.str x t from r); cases e; rfl
  | byt b => obtain ⟨t, e⟩ := (show ∃ t, u = Value.bytes b t from r); cases e; rfl
  | flt b => obtain ⟨t, e⟩ := (show ∃ t, u = Value.float b t from r); cases e; rfl
  | ref a => cases (show u = Value.ref a from r); rfl
  | ty n => cases (show u = Value.type n from r); rfl

section
variable {P : Program} {w : World} {H H' : Hp} {h h' : Heap} {a C dx : Addr} {fs fs' : List (Str × V)}
theorem ins_get (hok : HOk P w H h) (e : H a = some (.ins C dx fs)) : ∃ mA, ObjM h a dx C mA ∧ (∀ f, RelO (fs.lookup f) (mA f)) ∧ PySem.Within mA (fs.map (·.1)) ∧ fs.length ≤ 1000 ∧ H dx = some (.own a) := by
  obtain ⟨d, z, ne, ob, mA, n, r, q⟩ := (show ObjOk P w H h a (.ins C dx fs) from hok a _ e)
  exact ⟨mA, ⟨ob, n, ne⟩, r, q, z, d⟩
end

/-! ### what of the text a class must have -/
structure Cls (K : PySem.W.Frag) (C : Addr) : Prop where
  pg : PySem.W.plainGet K C Str.empty = true
  hd : PySem.W.hasDictIn K C = true
  po : PySem.W.plainOver K C = true
  sa : PySem.W.findIn K (.ref C) "__setattr__" = some (some (.builtin "object.__setattr__"))
theorem Cls.get {K : PySem.W.Frag} {C : Addr} (c : Cls K C) (f : Str) : PySem.W.plainGet K C f = true := c.pg
/-- no class of it has the name -/
def NoAttr (K : PySem.W.Frag) (C : Addr) (f : Str) : Prop := PySem.W.findIn K (.ref C) f = some none
theorem NoAttr.taker {K : PySem.W.Frag} {C : Addr} {f : Str} (n : NoAttr K C f) : PySem.W.takerIn K C f = some none := by
  unfold PySem.W.takerIn
  rw [show PySem.W.findIn K (.ref C) f = some none from n]
  rfl
/-- a constant of the class -/
structure Con (K : PySem.W.Frag) (C : Addr) (f : Str) (v : V) (u : Value) : Prop where
  at_ : PySem.W.findIn K (.ref C) f = some (some u)
  rel : RelV v u
  get : PySem.W.specialIn K u "__get__" = some none
  cp : PySem.W.copiedNames.contains f = false
/-- a method: a plain def of the class or of one above it -/
structure Meth (K : PySem.W.Frag) (C : Addr) (m : Str) (f : Addr) : Prop where
  at_ : PySem.W.findIn K (.ref C) m = some (some (.ref f))
  fn : PySem.W.isFn K (.ref f) = true
  kp : PySem.W.keepIn K (.ref f) = true

section
variable {X : Cx} {pins : List (Addr × Obj)} {σ : St} {H : Hp} {s : Shared} {a C dx : Addr} {fs : List (Str × V)} {f : Str} {v : V} {A : Around} {E : Value → Shared → Prop}

theorem getattr_ok {b : Bool} {Q : Value → Shared → Prop} (I : Inv X pins σ H s) (e : H a = some (.ins C dx fs)) (c : Cls X.K C) (n : NoAttr X.K C f) (l : fs.lookup f = some v)
    (h : ∀ u s', Inv X pins σ H s' → RelV v u → Q u s') : wpAny (model X.prog X.w) A (getAttr (.ref a) f b) Q E s := by
  obtain ⟨mA, O, r, _, _, _⟩ := ins_get I.hok e
  obtain ⟨u, hu, ru⟩ := RelO.some_of (v := v) (o := mA f) (by rw [← l]; exact r f)
  exact get_map I.kIn O (c.get f) c.hd n hu (handed_of ru) (h u _ (I.tok _) ru)

theorem getcon_ok {b : Bool} {u : Value} {Q : Value → Shared → Prop} (I : Inv X pins σ H s) (e : H a = some (.ins C dx fs)) (c : Cls X.K C) (k : Con X.K C f v u) (l : fs.lookup f = none)
    (h : ∀ s', Inv X pins σ H s' → Q u s') : wpAny (model X.prog X.w) A (getAttr (.ref a) f b) Q E s := by
  obtain ⟨mA, O, r, _, _, _⟩ := ins_get I.hok e
  have hn : mA f = none := RelO.none_of (by rw [← l]; exact r f)
  exact get_const I.kIn O (c.get f) c.hd k.at_ k.get k.cp hn (handed_of k.rel) (h _ (I.tok _))

theorem getmeth_ok {m : Str} {g : Addr} {pl : Sem Bool} {Q : Value × List Value → Shared → Prop} (I : Inv X pins σ H s) (e : H a = some (.ins C dx fs)) (c : Cls X.K C) (k : Meth X.K C m g) (l : fs.lookup m = none)
    (h : Q (.ref g, [.ref a]) s) : wpAny (model X.prog X.w) A (getMethod (.ref a) m pl) Q E s := by
  obtain ⟨mA, O, r, _, _, _⟩ := ins_get I.hok e
  have hn : mA m = none := RelO.none_of (by rw [← l]; exact r m)
  exact get_meth I.kIn O (c.get m) k.at_ k.fn hn h

theorem setattr_ok {y : V} {u : Value} {Q : Unit → Shared → Prop} (I : Inv X pins σ H s) (e : H a = some (.ins C dx fs)) (c : Cls X.K C) (n : NoAttr X.K C f) (hl : fs.length < 1000) (ry : RelV y u)
    (h : ∀ s', Inv X pins σ (upd H a (.ins C dx (putF f y fs))) s' → Q () s') : wpAny (model X.prog X.w) A (setAttr (.ref a) f u) Q E s := by
  obtain ⟨mA, O, r, wi, _, ho⟩ := ins_get I.hok e
  have hz : (fs.map (·.1)).length ≤ sizeLine := by rw [List.length_map, sizeLine_eq]; omega
  refine set_map I.kIn O c.sa c.po n.taker c.hd wi hz fun h' O' sb => h _ ?_
  have hd : ∃ o, h'.get? dx = some o := let ⟨o, _, _, e', _⟩ := O'.ns; ⟨o, e'⟩
  refine I.write (x := a) (e := dx) (by rw [e]; exact True.intro) (.inr ho) (fun b q hb z => (sb.2 b hb).trans z) hd ?_
  refine ⟨by rw [upd_ne O.ne]; exact ho, ?_, O.ne, O'.obj, _, O'.ns, fun g => ?_, fun g hg => ?_⟩
  · have := length_putF f y fs; omega
  · show RelO ((putF f y fs).lookup g) (if g = f then some u else mA g)
    rw [lookup_putF]
    by_cases q : g = f
    · rw [if_pos q, if_pos q]; exact ry
    · rw [if_neg q, if_neg q]; exact r g
  · by_cases q : g = f
    · rw [q]; exact (keys_putF f y fs).1
    · refine (keys_putF f y fs).2 g (wi g fun z => hg ?_)
      show (if g = f then some u else mA g) = none
      rw [if_neg q]; exact z

/-- a new instance, tracked, without attributes -/
theorem Inv.made (I : Inv X pins σ H s) : Inv X pins σ (upd (upd H s.heap.objs.size (.own (s.heap.objs.size + 1))) (s.heap.objs.size + 1) (.ins C s.heap.objs.size []))
    { s with heap := (s.heap.push PySem.W.emptyDict).push (PySem.W.instObj C s.heap.objs.size) } := by
  have e1 : (s.heap.push PySem.W.emptyDict).get? s.heap.objs.size = some PySem.W.emptyDict := Heap.get?_push_size s.heap rfl
  have e2 : ((s.heap.push PySem.W.emptyDict).push (PySem.W.instObj C s.heap.objs.size)).get? (s.heap.objs.size + 1) = some (PySem.W.instObj C s.heap.objs.size) := by
    have := Heap.get?_push_size (s.heap.push PySem.W.emptyDict) (o := PySem.W.instObj C s.heap.objs.size) rfl
    rwa [Heap.size_push] at this
  have e3 : (s.heap.push PySem.W.emptyDict).Ns s.heap.objs.size (fun _ => none) := ⟨PySem.W.emptyDict, #[], _, e1, rfl, (fun e he => absurd he (by simp)), fun _ => rfl⟩
  have I1 := I.laid (a := s.heap.objs.size) (o := .own (s.heap.objs.size + 1)) (h' := s.heap.push PySem.W.emptyDict) (t' := s.toks) (fun b u q => Heap.get?_push_of_some _ q) (Nat.le_refl _) ⟨_, e1⟩
  refine I1.laid (a := s.heap.objs.size + 1) (o := .ins C s.heap.objs.size []) (t' := s.toks) (fun b u q => Heap.get?_push_of_some _ q) (Nat.le_of_eq (Heap.size_push _ _)) ?_
  have ne : s.heap.objs.size ≠ s.heap.objs.size + 1 := Nat.ne_of_lt (Nat.lt_succ_self _)
  refine ⟨by rw [upd_ne ne, upd_same], Nat.zero_le _, ne, e2, fun _ => none, (Heap.Ns1.of_empty e3).at fun o q => Heap.get?_push_of_some _ q, fun _ => True.intro, fun y hy => absurd rfl hy⟩

/-- e.f where nothing but the object is asked: through attributeBase (super) and the last hold -/
theorem attr_of {prog : Program} {w : World} {env : Env} {e : Expr} {f : Str} {pos : Pos} {s : Shared} {Q : Value → Shared → Prop} (hb : attributeBase e f env (eval e env) = eval e env)
    (h : wpAny (model prog w) A (eval e env) (fun o s₁ => wpAny (model prog w) A (getAttr o f true) Q E s₁) E s) : wpAny (model prog w) A (eval (.Attribute e f pos) env) Q E s :=
  Attribute_any_ h (by rw [arm_eval_Attribute, hb])
end

/-! ### readings and rules -/
/-- e.f, an attribute of the instance -/
def tFld (K : PySem.W.Frag) (ta : TE) (f : Str) : TE := fun σ H Q => ta σ H fun x H1 => ∃ a C dx fs v, x = .ref a ∧ H1 a = some (.ins C dx fs) ∧ Cls K C ∧ NoAttr K C f ∧ fs.lookup f = some v ∧ Q v H1
/-- e.f, a constant of the class -/
def tCon (K : PySem.W.Frag) (ta : TE) (f : Str) : TE := fun σ H Q => ta σ H fun x H1 => ∃ a C dx fs v u, x = .ref a ∧ H1 a = some (.ins C dx fs) ∧ Cls K C ∧ Con K C f v u ∧ fs.lookup f = none ∧ Q v H1
/-- e.f = value -/
def sFld (K : PySem.W.Frag) (ta tv : TE) (f : Str) : TS := fun D σ H => tv σ H fun y H1 => ta σ H1 fun x H2 => ∃ a C dx fs, x = .ref a ∧ H2 a = some (.ins C dx fs) ∧ Cls K C ∧ NoAttr K C f ∧ fs.length < 1000 ∧
  D.nx σ (upd H2 a (.ins C dx (putF f y fs)))
/-- an augmented operator on two values -/
def InOp (X : Cx) (op : Operator) (rd : V → V → Hp → VK → Prop) : Prop :=
  ∀ (pins : List (Addr × Obj)) (s : Shared) (σ : St) (H : Hp) (x y : V) (u v : Value) (Q : VK), Inv X pins σ H s → RelV x u → RelV y v → rd x y H Q → wpAny (model X.prog X.w) X.A (inplaceOp op u v) (EP X pins σ Q) X.xe s
/-- e.f op= value -/
def sFldAug (K : PySem.W.Frag) (ta tv : TE) (rd : V → V → Hp → VK → Prop) (f : Str) : TS := fun D σ H => ta σ H fun x H1 => ∃ a C dx fs v, x = .ref a ∧ H1 a = some (.ins C dx fs) ∧ Cls K C ∧ NoAttr K C f ∧ fs.lookup f = some v ∧
  tv σ H1 fun y H2 => rd v y H2 fun z H3 => ∃ dx' fs', H3 a = some (.ins C dx' fs') ∧ fs'.length < 1000 ∧ D.nx σ (upd H3 a (.ins C dx' (putF f z fs')))

section
variable {X : Cx} {o e value : Expr} {f : Str} {pos pos' tpos : Pos} {ta tv : TE}
theorem pe_fld (he : PE X e ta) (hb : attributeBase e f X.env (eval e X.env) = eval e X.env) : PE X (.Attribute e f pos) (tFld X.K ta f) := by
  intro pins s σ H Q I h
  refine attr_of hb (thn (he pins s σ H _ I h) fun u s1 ⟨x, H1, I1, rx, a, C, dx, fs, v, ex, ea, c, n, l, q⟩ => ?_)
  subst ex
  obtain rfl : u = Value.ref a := rx
  exact getattr_ok I1 ea c n l fun u' s2 I2 ru => ⟨v, H1, I2, ru, q⟩
theorem pe_con (he : PE X e ta) (hb : attributeBase e f X.env (eval e X.env) = eval e X.env) : PE X (.Attribute e f pos) (tCon X.K ta f) := by
  intro pins s σ H Q I h
  refine attr_of hb (thn (he pins s σ H _ I h) fun u s1 ⟨x, H1, I1, rx, a, C, dx, fs, v, u0, ex, ea, c, k, l, q⟩ => ?_)
  subst ex
  obtain rfl : u = Value.ref a := rx
  exact getcon_ok I1 ea c k l fun s2 I2 => ⟨v, H1, I2, k.rel, q⟩
theorem ps_fld (ha : PE X o ta) (hv : PE X value tv) (hs : swapsWith value (some (.Attribute o f pos')) pos.line X.env = pure false) : PS X (.Assign [.Attribute o f pos'] value pos) (sFld X.K ta tv f) := by
  intro pins s σ H D I h
  refine plainObj_wpAny_Assign_Attribute (thn (hv pins s σ H _ I h) fun u s1 ⟨y, H1, I1, ry, q⟩ => thn (ha pins s1 σ H1 _ I1 q) fun ov s2 ⟨x, H2, I2, rx, a, C, dx, fs, ex, ea, c, n, l, q2⟩ => ?_) hs
  subst ex
  obtain rfl : ov = Value.ref a := rx
  exact setattr_ok I2 ea c n l ry fun s3 I3 => ⟨σ, _, I3, q2⟩
theorem ps_fldaug {op : Operator} {rd : V → V → Hp → VK → Prop} (ha : PE X o ta) (hv : PE X value tv) (hop : InOp X op rd) : PS X (.AugAssign (.Attribute o f tpos) op value pos) (sFldAug X.K ta tv rd f) := by
  intro pins s σ H D I h
  refine wpAny_AugAssign_AttributeAny (thn (ha pins s σ H _ I h) fun ov s1 ⟨x, H1, I1, rx, a, C, dx, fs, v, ex, ea, c, n, l, q⟩ => ?_)
  subst ex
  obtain rfl : ov = Value.ref a := rx
  refine getattr_ok I1 ea c n l fun u s2 I2 ru => thn (hv pins s2 σ H1 _ I2 q) fun w3 s3 ⟨y, H2, I3, ry, q3⟩ => thn (hop pins s3 σ H2 v y u w3 _ I3 ru ry q3) fun w4 s4 ⟨z, H3, I4, rz, dx', fs', ea', l', q4⟩ => ?_
  exact setattr_ok I4 ea' c n l' rz fun s5 I5 => ⟨σ, _, I5, q4⟩
def rAdd : V → V → Hp → VK → Prop := fun x y H Q => ∃ i j, x = .int i ∧ y = .int j ∧ Q (.int (i + j)) H
def rSub : V → V → Hp → VK → Prop := fun x y H Q => ∃ i j, x = .int i ∧ y = .int j ∧ Q (.int (i - j)) H
theorem in_add : InOp X .Add rAdd := by
  rintro pins s σ H x y u v Q I rx ry ⟨i, j, rfl, rfl, q⟩
  obtain ⟨t, rfl⟩ := (show ∃ t, u = Value.int i t from rx)
  obtain ⟨t', rfl⟩ := (show ∃ t', v = Value.int j t' from ry)
  exact PyProof.Rows.iadd_int ⟨.int (i + j), H, I.tok _, ⟨_, rfl⟩, q⟩
theorem in_sub : InOp X .Sub rSub := by
  rintro pins s σ H x y u v Q I rx ry ⟨i, j, rfl, rfl, q⟩
  obtain ⟨t, rfl⟩ := (show ∃ t, u = Value.int i t from rx)
  obtain ⟨t', rfl⟩ := (show ∃ t', v = Value.int j t' from ry)
  exact PyProof.Rows.isub_int ⟨.int (i - j), H, I.tok _, ⟨_, rfl⟩, q⟩

/-- what is between an instance and its method: the tree of a method call -/
theorem methcall_of {pl : Sem Bool} {m : Str} {apos : Pos} {args : List Expr} {pins : List (Addr × Obj)} {s : Shared} {σ : St} {H : Hp} {Q : Value → Shared → Prop} {te : TE} (he : PE X e te) (I : Inv X pins σ H s)
    (h : te σ H fun x H1 => ∃ a C dx fs g, x = .ref a ∧ H1 a = some (.ins C dx fs) ∧ Cls X.K C ∧ Meth X.K C m g ∧ fs.lookup m = none ∧
      ∀ s1, Inv X pins σ H1 s1 → wpAny (model X.prog X.w) X.A (callWith pos (.ref g) [.ref a] (backTo pos (starEach args X.env)) (backToKw pos (keywordEach [] X.env))) Q X.xe s1)
    (ht : eval (.Call (.Attribute e m apos) args [] pos) X.env = (do
      let ov ← eval e X.env
      standAt apos.atName
      let (f, first) ← holding [ov] (getMethod ov m pl)
      callWith pos f first (backTo pos (starEach args X.env)) (backToKw pos (keywordEach [] X.env)))) :
    wpAny (model X.prog X.w) X.A (eval (.Call (.Attribute e m apos) args [] pos) X.env) Q X.xe s := by
  refine PySem.W.methodCall_KW (pl := pl) (thn (he pins s σ H _ I h) fun u s1 ⟨x, H1, I1, rx, a, C, dx, fs, g, ex, ea, c, k, l, q⟩ => ?_) ht
  subst ex
  obtain rfl : u = Value.ref a := rx
  exact getmeth_ok I1 ea c k l (q s1 I1)
end

/-! ### isinstance -/
section
variable {X : Cx} {pins : List (Addr × Obj)} {σ : St} {H : Hp} {s : Shared} {A : Around} {E : Value → Shared → Prop} {Q : Value → Shared → Prop} {c : Value} {b : Bool}
/-- the type of a value, as the fragment's deciders take it; for an instance its class -/
inductive TyOf (K : PySem.W.Frag) (H : Hp) : V → Value → Prop where
  | non : TyOf K H .non (.type "NoneType")
  | bl (x : Bool) : TyOf K H (.bl x) (.type "bool")
  | int (i : Int) : TyOf K H (.int i) (.type "int")
  | str (x : Str) : TyOf K H (.str x) (.type "str")
  | flt (x : UInt64) : TyOf K H (.flt x) (.type "float")
  | lst {a : Addr} {xs : List V} (e : H a = some (.lst xs)) : TyOf K H (.ref a) (.type "list")
  | frz {a : Addr} {o : Obj} {xs : List V} (e : H a = some (.frz o (.lst xs))) : TyOf K H (.ref a) (.type "list")
  | tup {a : Addr} {xs : List V} (e : H a = some (.tup xs)) : TyOf K H (.ref a) (.type "tuple")
  | dK {a : Addr} {kvs : List (Key × V)} (e : H a = some (.dK kvs)) : TyOf K H (.ref a) (.type "dict")
  | dT {a : Addr} {kvs : List (List Key × V)} (e : H a = some (.dT kvs)) : TyOf K H (.ref a) (.type "dict")
  | ins {a C dx : Addr} {fs : List (Str × V)} (e : H a = some (.ins C dx fs)) (cl : Cls K C) (ha : PySem.W.findIn K (.ref C) "__class__" = some (some (.builtin "object.__class__")))
      (hn : PySem.W.specialIn K (.builtin "object.__class__") "__get__" = some (some (.builtin "getset_descriptor.__get__"))) (htk : PySem.W.takesIn K (.builtin "object.__class__") = some true)
      (hm : PySem.W.mroIn K C (.type "object") = some true) : TyOf K H (.ref a) (.ref C)
/-- isinstance(x, c) for one class c, a built-in or an own one: kitOne's answer -/
theorem isinst_ok {x : V} {u t : Value} (I : Inv X pins σ H s) (rx : RelV x u) (ty : TyOf X.K H x t) (e : PySem.W.kitOne X.K t c = some b) (h : ∀ tk, Q (.bool b) { s with toks := tk }) :
    wpAny (model X.prog X.w) A (call (.builtin "isinstance") [u, c]) Q E s := by
  cases ty with
  | non => cases (show u = Value.none from rx); exact PySem.W.kia_one PySem.W.kitx_none I.kIn True.intro e (fun z => nomatch z) h
  | bl y => cases (show u = Value.bool y from rx); exact PySem.W.kia_one PySem.W.kitx_bool I.kIn True.intro e (fun z => nomatch z) h
  | int i => obtain ⟨t, q⟩ := (show ∃ t, u = Value.int i t from rx); cases q; exact PySem.W.kia_one PySem.W.kitx_int I.kIn True.intro e (fun z => nomatch z) h
  | str y => obtain ⟨t, q⟩ := (show ∃ t, u = Value.str y t from rx); cases q; exact PySem.W.kia_one PySem.W.kitx_str I.kIn True.intro e (fun z => nomatch z) h
  | flt y => obtain ⟨t, q⟩ := (show ∃ t, u = Value.float y t from rx); cases q; exact PySem.W.kia_one PySem.W.kitx_float I.kIn True.intro e (fun z => nomatch z) h
  | @lst a xs ea =>
    cases (show u = Value.ref a from rx)
    obtain ⟨_, _, n, _, h1⟩ := (show ObjOk X.prog X.w H s.heap a (.lst xs) from I.hok a _ ea)
    exact PySem.W.kia_one PySem.W.kitx_list I.kIn ⟨_, h1, rfl⟩ e (fun z => nomatch z) h
  | @frz a ob xs ea =>
    cases (show u = Value.ref a from rx)
    obtain ⟨_, _, _, n, _, h1⟩ := (show ObjOk X.prog X.w H s.heap a (.frz ob (.lst xs)) from I.hok a _ ea)
    exact PySem.W.kia_one PySem.W.kitx_list I.kIn ⟨_, h1, rfl⟩ e (fun z => nomatch z) h
  | @tup a xs ea =>
    cases (show u = Value.ref a from rx)
    obtain ⟨_, _, _, p⟩ := (show ObjOk X.prog X.w H s.heap a (.tup xs) from I.hok a _ ea)
    obtain ⟨o, h1, h2, _⟩ := p
    exact PySem.W.kia_one PySem.W.kitx_tuple I.kIn ⟨o, h1, h2⟩ e (fun z => nomatch z) h
  | @dK a kvs ea =>
    cases (show u = Value.ref a from rx)
    obtain ⟨_, _, vs, _, p⟩ := (show ObjOk X.prog X.w H s.heap a (.dK kvs) from I.hok a _ ea)
    obtain ⟨o, es, ep, h1, h2, _⟩ := p
    exact PySem.W.kia_one PySem.W.kitx_dict I.kIn ⟨o, h1, h2.1⟩ e (fun z => nomatch z) h
  | @dT a kvs ea =>
    cases (show u = Value.ref a from rx)
    obtain ⟨_, _, xs, _, o, es, ep, h1, h2, _⟩ := (show ObjOk X.prog X.w H s.heap a (.dT kvs) from I.hok a _ ea)
    exact PySem.W.kia_one PySem.W.kitx_dict I.kIn ⟨o, h1, h2.1⟩ e (fun z => nomatch z) h
  | @ins a C dx fs ea cl ha hn htk hm =>
    cases (show u = Value.ref a from rx)
    obtain ⟨mA, O, _⟩ := ins_get I.hok ea
    obtain ⟨od, J, _⟩ := O.look
    exact PySem.W.kia_one (PySem.W.kitx_own (cl.get _) cl.hd ha hn htk hm) I.kIn J e (fun z => nomatch z) h
end
end L2

namespace L2
open PySem PySem.Spec PyProof.Rows

/-! ### room -/
structure Room (k : Nat) (A : Around) : Prop where
  hd : A.handled = none
  dp : A.depth + 3 * k + 5 < recursionLimit
  un : A.units + 16 * k + 200 < cLine
theorem Room.mono {j k : Nat} {A : Around} (r : Room k A) (h : j ≤ k) : Room j A := ⟨r.hd, by have := r.dp; omega, by have := r.un; omega⟩
theorem Room.deeper {k : Nat} {A : Around} (r : Room (k + 1) A) (env : Env) : Room k (A.deeper env) :=
  ⟨r.hd, by have := r.dp; show A.depth + 1 + 3 * k + 5 < _; omega, by have := r.un; show A.units + 3 + 16 * k + 200 < _; omega⟩
theorem Room.in1 {k : Nat} {A : Around} (r : Room (k + 1) A) : Room k A.in1 :=
  ⟨r.hd, by have := r.dp; show A.depth + 3 * k + 5 < _; omega, by have := r.un; show A.units + 1 + 16 * k + 200 < _; omega⟩
theorem make_depth {A : Around} {C : Addr} {us : List Value} {kw : List (Str × Value)} : (A.under (.builtin "type.__call__" ⟨.ref C :: us, kw⟩)).depth = A.depth + 1 := by
  first | rfl | simp [Around.under, Code.weight, Code.isCreation, Code.isGuard, Code.isCaller, Code.frames, Code.isFrame, guardIds]
theorem make_units {A : Around} {C : Addr} {us : List Value} {kw : List (Str × Value)} : (A.under (.builtin "type.__call__" ⟨.ref C :: us, kw⟩)).units = A.units + 1 := by
  first | rfl | simp [Around.under, Code.cUnits, Code.frames, Code.isFrame]
theorem Room.make {k : Nat} {A : Around} (r : Room (k + 1) A) (C : Addr) (us : List Value) (kw : List (Str × Value)) : Room k (A.under (.builtin "type.__call__" ⟨.ref C :: us, kw⟩)) :=
  ⟨r.hd, by have := r.dp; rw [make_depth]; omega, by have := r.un; rw [make_units]; omega⟩
theorem Room.depth {k : Nat} {A : Around} (r : Room k A) : A.depth < recursionLimit := by have := r.dp; omega
theorem Room.units {k : Nat} {A : Around} (r : Room k A) : A.units + 64 < cLine := by have := r.un; omega
theorem Room.units0 {k : Nat} {A : Around} (r : Room k A) : A.units < cLine := by have := r.un; omega

/-! ### argument lists and displays -/
def tNil : TA := fun _ H Q => Q [] H
def tCons (ta : TE) (tr : TA) : TA := fun σ H Q => ta σ H fun x H1 => tr σ H1 fun xs H2 => Q (x :: xs) H2
section
variable {X : Cx} {e : Expr} {es : List Expr} {te : TE} {t : TA} {pos : Pos}
theorem pa_nil : PA X [] tNil := fun _ _ _ _ H Q I h => Calls.spliced_nil ⟨[], H, I, .nil, h⟩
theorem pa_cons (ha : PE X e te) (hr : PA X es t) (hs : starEach (e :: es) X.env = (false, eval e X.env) :: starEach es X.env := by rfl) : PA X (e :: es) (tCons te t) := by
  intro pos pins s σ H Q I h
  rw [hs]
  show wpAny _ _ (spliced ((false, eval e X.env) :: backTo pos (starEach es X.env))) _ _ s
  refine Calls.spliced_cons (thn (ha pins s σ H _ I h) fun u s1 ⟨x, H1, I1, r1, q1⟩ => ?_)
  exact thn (hr pos pins s1 σ H1 _ I1 q1) fun us s2 ⟨xs, H2, I2, r2, q2⟩ => ⟨x :: xs, H2, I2, .cons r1 r2, q2⟩

/-- a tuple, a list of written items -/
def tTup (t : TA) : TE := fun σ H Q => t σ H fun xs H1 => xs.length ≤ sizeLine ∧ ∀ p, H1 p = none → Q (.ref p) (upd H1 p (.tup xs))
def tLst (t : TA) : TE := fun σ H Q => t σ H fun xs H1 => xs.length ≤ sizeLine ∧ ∀ p, H1 p = none → Q (.ref p) (upd H1 p (.lst xs))
theorem pe_tup {x1} (h : PA X es t) : PE X (.Tuple es x1 pos) (tTup t) := by
  intro pins s σ H Q I hq
  refine wpAny_Tuple_spliced (thn (h pos pins s σ H _ I hq) fun us s1 ⟨xs, H1, I1, r, z, q⟩ => ⟨by rw [← r.length]; exact z, ?_⟩)
  have hf : H1 s1.heap.objs.size = none := I1.hok.fresh (Nat.le_refl _)
  refine ⟨.ref s1.heap.objs.size, upd H1 s1.heap.objs.size (.tup xs), I1.laid (t' := s1.toks) (fun b u e => Heap.get?_push_of_some _ e) (Nat.le_refl _) ?_, rfl, q _ hf⟩
  exact ⟨z, us, r, ⟨_, Heap.get?_push_size _ rfl, rfl, _, rfl⟩⟩
theorem pe_lst (h : PA X es t) : PE X (.List es pos) (tLst t) := by
  intro pins s σ H Q I hq
  refine wpAny_List_spliced (thn (h pos pins s σ H _ I hq) fun us s1 ⟨xs, H1, I1, r, z, q⟩ => ⟨by rw [← r.length]; exact z, ?_⟩)
  have hf : H1 s1.heap.objs.size = none := I1.hok.fresh (Nat.le_refl _)
  refine ⟨.ref s1.heap.objs.size, upd H1 s1.heap.objs.size (.lst xs), I1.laid (t' := s1.toks) (fun b u e => Heap.get?_push_of_some _ e) (Nat.le_refl _) ?_, rfl, q _ hf⟩
  exact ⟨z, us, 0, r, Heap.get?_push_size _ rfl⟩
end

/-! ### what a def promises -/
/-- a def's promise: the bound arguments in the parameters' order, the heap, the wanted end, the wanted exception -/
abbrev Sp := List V → Hp → VK → XK → Prop
/-- how an exception lies behind a call (file 08 gives it): the callers' frames, abstract heap and state ahead of the call, the wish, the exception, the state -/
abbrev CXT := List Env → Hp → Shared → XK → Value → Shared → Prop

/-- the state at a call -/
structure Env0 (P : Program) (w : World) (K : PySem.W.Frag) (mg : Str → Option Value) (base : Heap) (A : Around) (outer : List Env) (s : Shared) (H : Hp) : Prop where
  frames : A.frames = some outer
  mod : Mod K mg base
  bs : ∀ b o, base.get? b = some o → s.heap.get? b = some o ∧ H b = none
  bsz : base.objs.size ≤ s.heap.objs.size
  funs : s.heap.FunFrames base outer
  frf : ∀ b ∈ frs outer, H b = none
  hok : HOk P w H s.heap
  bare : AllBare s.gens
/-- a call's end -/
def CE (outer : List Env) (P : Program) (w : World) (H : Hp) (s : Shared) (Q : VK) (u : Value) (s' : Shared) : Prop :=
  ∃ v H', s'.os = s.os ∧ AllBare s'.gens ∧ Un (frs outer) [] H H' s.heap s'.heap ∧ HOk P w H' s'.heap ∧ RelV v u ∧ Q v H'
def CR (CX : CXT) (outer : List Env) (P : Program) (w : World) (H : Hp) (s : Shared) (Q : VK) (E : XK) (r : Result) (s' : Shared) : Prop :=
  match r with
  | .ok (.ret u) => CE outer P w H s Q u s'
  | .ok _ => False
  | .error e => CX outer H s E e s'
structure FnOk (P : Program) (w : World) (K : PySem.W.Frag) (mg : Str → Option Value) (base : Heap) (CX : CXT) (k : Nat) (f : Addr) (fd : FuncData) (ps : List Str) (sp : Sp) : Prop where
  len : ∀ vs H Q E, sp vs H Q E → vs.length = ps.length
  run : ∀ (A : Around) (outer : List Env) (s : Shared) (H : Hp) (args : Args) (us : List Value) (vs : List V) (Q : VK) (E : XK), Room k A → Env0 P w K mg base A outer s H → BindsTo s fd args (ps.zip us) → Vals vs us → sp vs H Q E →
    codeAny (model P w) A (.call (.ref f) args) (CR CX outer P w H s Q E) s
theorem FnOk.mono {P : Program} {w : World} {K : PySem.W.Frag} {mg : Str → Option Value} {base : Heap} {CX : CXT} {j k : Nat} {f : Addr} {fd : FuncData} {ps : List Str} {sp : Sp} (F : FnOk P w K mg base CX j f fd ps sp) (h : j ≤ k) :
    FnOk P w K mg base CX k f fd ps sp := ⟨F.len, fun A outer s H args us vs Q E hr => F.run A outer s H args us vs Q E (hr.mono h)⟩
/-- a weaker promise -/
theorem FnOk.imp {P : Program} {w : World} {K : PySem.W.Frag} {mg : Str → Option Value} {base : Heap} {CX : CXT} {k : Nat} {f : Addr} {fd : FuncData} {ps : List Str} {sp sp' : Sp} (F : FnOk P w K mg base CX k f fd ps sp)
    (h : ∀ vs H Q E, sp' vs H Q E → sp vs H Q E) : FnOk P w K mg base CX k f fd ps sp' :=
  ⟨fun vs H Q E q => F.len vs H Q E (h _ _ _ _ q), fun A outer s H args us vs Q E hr he hb hv hs => F.run A outer s H args us vs Q E hr he hb hv (h _ _ _ _ hs)⟩

theorem Env0.make {P : Program} {w : World} {K : PySem.W.Frag} {mg : Str → Option Value} {base : Heap} {A : Around} {outer : List Env} {s : Shared} {H : Hp} (e : Env0 P w K mg base A outer s H) (C : Addr) (us : List Value) (kw : List (Str × Value)) :
    Env0 P w K mg base (A.under (.builtin "type.__call__" ⟨.ref C :: us, kw⟩)) outer s H := ⟨by first | exact e.frames | (simpa [Around.under, Code.envs, Code.isFrame, pushEnvs] using e.frames), e.mod, e.bs, e.bsz, e.funs, e.frf, e.hok, e.bare⟩
theorem Env0.in1 {P : Program} {w : World} {K : PySem.W.Frag} {mg : Str → Option Value} {base : Heap} {A : Around} {outer : List Env} {s : Shared} {H : Hp} (e : Env0 P w K mg base A outer s H) :
    Env0 P w K mg base A.in1 outer s H := ⟨e.frames, e.mod, e.bs, e.bsz, e.funs, e.frf, e.hok, e.bare⟩

section
variable {X : Cx} {pins : List (Addr × Obj)} {σ : St} {H : Hp} {s s' : Shared}
/-- from a body: what a callee wants -/
theorem Inv.env0 (I : Inv X pins σ H s) : Env0 X.prog X.w X.K X.mg X.base X.A X.stack s H :=
  ⟨I.ok.frames, I.ok.mod, I.bs, Nat.le_trans I.ok.bsz I.sz, I.stack, I.stkFree, I.hok, I.bare⟩
/-- behind a call -/
theorem Inv.after {Q : VK} {u : Value} (I : Inv X pins σ H s) (h : CE X.stack X.prog X.w H s Q u s') : EP X pins σ Q u s' := by
  obtain ⟨v, H', os, bare, un, hok, r, q⟩ := h
  obtain ⟨hh, g, d, t, os'⟩ := s'
  obtain rfl : os' = s.os := os
  exact ⟨v, H', I.call (h' := hh) (g' := g) (d' := d) (t' := t) (ch := []) un hok bare (fun b z => absurd z (by simp)), r, q⟩
end

/-! ### calls -/
/-- f(..): the written arguments, then the defaults dvs; E: what is wanted of an exception -/
def tCall (sp : Sp) (dvs : List V) (E : XK) (t : TA) : TE := fun σ H Q => t σ H fun vs H1 => sp (vs ++ dvs) H1 Q E
/-- o.m(..) of an instance of the class at C -/
def tMeth (C : Addr) (m : Str) (sp : Sp) (dvs : List V) (E : XK) (ta : TE) (t : TA) : TE := fun σ H Q => ta σ H fun x H1 => ∃ a dx fs, x = .ref a ∧ H1 a = some (.ins C dx fs) ∧ fs.lookup m = none ∧
  t σ H1 fun vs H2 => sp (x :: (vs ++ dvs)) H2 Q E
/-- C(..): a new instance and its dict, then __init__ -/
def tMake (C : Addr) (sp : Sp) (dvs : List V) (E : XK) (t : TA) : TE := fun σ H Q => t σ H fun vs H1 => ∀ x dx, H1 x = none → H1 dx = none → dx ≠ x →
  sp (.ref x :: (vs ++ dvs)) (upd (upd H1 dx (.own x)) x (.ins C dx [])) (fun v H2 => v = .non ∧ Q (.ref x) H2) E

/-- how the parameters are bound: us the positional arguments, kw the keywords' values by name, ds the defaults that fill up -/
def Binds (K : PySem.W.Frag) (fd : FuncData) (ps : List Str) (ds : List Value) : Prop :=
  ∀ (s : Shared) (us : List Value), K.In s.heap → (us ++ ds).length = ps.length → BindsTo s fd ⟨us, []⟩ (ps.zip (us ++ ds))
/-- every parameter is given -/
theorem Binds.all {K : PySem.W.Frag} {fd : FuncData} {ps : List Str} (h : ∀ us : List Value, us.length = ps.length → bindArgs fd ⟨us, []⟩ = pure (ps.zip us)) : Binds K fd ps [] := fun s us _ hl => by
  rw [List.append_nil] at hl ⊢
  exact .of_eq (h us hl)

/-- an exception of a callee reaches what this body wants of exceptions -/
def Passes (CX : CXT) (X : Cx) (E : XK) : Prop := ∀ (pins : List (Addr × Obj)) (σ : St) (H : Hp) (s : Shared) (e : Value) (s' : Shared), Inv X pins σ H s → CX X.stack H s E e s' → X.xe e s'

section
variable {X : Cx} {CX : CXT} {k : Nat} {f C : Addr} {fd : FuncData} {ps : List Str} {sp : Sp} {dvs : List V} {ds : List Value} {E : XK} {x m : Str} {p pos apos : Pos} {e o : Expr} {es : List Expr} {ta : TE} {t : TA}

/-- the callee runs -/
theorem run_fn {pins : List (Addr × Obj)} {σ : St} {H : Hp} {s : Shared} {Q : VK} {us : List Value} {vs : List V} (F : FnOk X.prog X.w X.K X.mg X.base CX k f fd ps sp) (hr : Room k X.A) (hb : Binds X.K fd ps ds) (hd : Vals dvs ds) (hx : Passes CX X E)
    (I : Inv X pins σ H s) (r : Vals vs us) (h : sp (vs ++ dvs) H Q E) : wpAny (model X.prog X.w) X.A (call (.ref f) us) (EP X pins σ Q) X.xe s := by
  have r2 : Vals (vs ++ dvs) (us ++ ds) := r.append hd
  have hl : (us ++ ds).length = ps.length := by rw [← r2.length]; exact F.len _ _ _ _ h
  refine wpAny_call (codeAny_mono (F.run X.A X.stack s H ⟨us, []⟩ (us ++ ds) (vs ++ dvs) Q E hr I.env0 (hb s us I.kIn hl) r2 h) fun r s' hq => ?_)
  cases r with
  | error e => exact hx pins σ H s e s' I hq
  | ok fl =>
    cases fl with
    | ret u => exact I.after hq
    | next => exact False.elim hq
    | brk => exact False.elim hq
    | cont => exact False.elim hq

theorem pe_call (F : FnOk X.prog X.w X.K X.mg X.base CX k f fd ps sp) (hr : Room k X.A) (hg : Gl X x) (hm : X.mg x = some (.ref f)) (hk : PySem.W.keepIn X.K (.ref f) = true) (hb : Binds X.K fd ps ds) (hd : Vals dvs ds) (hx : Passes CX X E)
    (ha : PA X (e :: es) t) (hdb : (x == ("__debug__" : Str)) = false := by decide) (he : starEach (e :: es) X.env = (false, eval e X.env) :: starEach es X.env := by rfl) (hpl : (backTo pos (starEach es X.env)).any (·.1) = false := by rfl) :
    PE X (.Call (.Name x p) (e :: es) [] pos) (tCall sp dvs E t) := by
  intro pins s σ H Q I h
  refine wpAny_Call_Name_kw (ld_glob I hg hm ?_ hdb)
  refine PySem.W.callWith_K (h₀ := X.base) I.ok.mod.kin hk (thn (ha pos pins s σ H _ I h) fun us s1 ⟨vs, H1, I1, r, q⟩ => ⟨I1.kIn, ?_⟩) he hpl
  exact run_fn F hr hb hd hx I1 r q
theorem pe_call0 (F : FnOk X.prog X.w X.K X.mg X.base CX k f fd ps sp) (hr : Room k X.A) (hg : Gl X x) (hm : X.mg x = some (.ref f)) (hk : PySem.W.keepIn X.K (.ref f) = true) (hb : Binds X.K fd ps ds) (hd : Vals dvs ds) (hx : Passes CX X E)
    (hdb : (x == ("__debug__" : Str)) = false := by decide) : PE X (.Call (.Name x p) [] [] pos) (tCall sp dvs E tNil) := by
  intro pins s σ H Q I h
  refine wpAny_Call_Name_kw (ld_glob I hg hm ?_ hdb)
  exact PySem.W.callWith_K0 I.kIn hk (run_fn (us := []) F hr hb hd hx I .nil h)

/-- o.m(e, ..) -/
theorem pe_meth {pl : Sem Bool} (he : PE X o ta) (c : Cls X.K C) (hm : Meth X.K C m f) (F : FnOk X.prog X.w X.K X.mg X.base CX k f fd ps sp) (hr : Room k X.A) (hb : Binds X.K fd ps ds) (hd : Vals dvs ds) (hx : Passes CX X E) (ha : PA X (e :: es) t)
    (hst : starEach (e :: es) X.env = (false, eval e X.env) :: starEach es X.env := by rfl) (hpl : (backTo pos (starEach es X.env)).any (·.1) = false := by rfl)
    (ht : eval (.Call (.Attribute o m apos) (e :: es) [] pos) X.env = (do
      let ov ← eval o X.env
      standAt apos.atName
      let (f, first) ← holding [ov] (getMethod ov m pl)
      callWith pos f first (backTo pos (starEach (e :: es) X.env)) (backToKw pos (keywordEach [] X.env))) := by rfl) :
    PE X (.Call (.Attribute o m apos) (e :: es) [] pos) (tMeth C m sp dvs E ta t) := by
  intro pins s σ H Q I h
  refine PySem.W.methodCall_KW (pl := pl) (thn (he pins s σ H _ I h) fun u s1 ⟨x, H1, I1, rx, a, dx, fs, ex, ea, l, q⟩ => ?_) ht
  subst ex
  obtain rfl : u = Value.ref a := rx
  refine getmeth_ok I1 ea c hm l ?_
  refine PySem.W.callWith_K (first := [.ref a]) (h₀ := X.base) I.ok.mod.kin hm.kp (thn (ha pos pins s1 σ H1 _ I1 q) fun us s2 ⟨vs, H2, I2, r, q2⟩ => ⟨I2.kIn, ?_⟩) hst hpl
  exact run_fn (us := .ref a :: us) (vs := .ref a :: vs) F hr hb hd hx I2 (.cons rfl r) q2
/-- o.m() -/
theorem pe_meth0 {pl : Sem Bool} (he : PE X o ta) (c : Cls X.K C) (hm : Meth X.K C m f) (F : FnOk X.prog X.w X.K X.mg X.base CX k f fd ps sp) (hr : Room k X.A) (hb : Binds X.K fd ps ds) (hd : Vals dvs ds) (hx : Passes CX X E)
    (ht : eval (.Call (.Attribute o m apos) [] [] pos) X.env = (do
      let ov ← eval o X.env
      standAt apos.atName
      let (f, first) ← holding [ov] (getMethod ov m pl)
      callWith pos f first (backTo pos (starEach [] X.env)) (backToKw pos (keywordEach [] X.env))) := by rfl) :
    PE X (.Call (.Attribute o m apos) [] [] pos) (tMeth C m sp dvs E ta tNil) := by
  intro pins s σ H Q I h
  refine PySem.W.methodCall_KW (pl := pl) (thn (he pins s σ H _ I h) fun u s1 ⟨x, H1, I1, rx, a, dx, fs, ex, ea, l, q⟩ => ?_) ht
  subst ex
  obtain rfl : u = Value.ref a := rx
  refine getmeth_ok I1 ea c hm l ?_
  exact PySem.W.callWith_K0 (first := [.ref a]) I1.kIn hm.kp (run_fn (us := [.ref a]) (vs := [.ref a]) F hr hb hd hx I1 (.cons rfl .nil) q)

/-- what a class must have to be made -/
structure Mk (K : PySem.W.Frag) (C f : Addr) : Prop where
  makes : PySem.W.makesIn K C = true
  init : PySem.W.findIn K (.ref C) "__init__" = some (some (.ref f))
  fn : PySem.W.isFn K (.ref f) = true
  kp : PySem.W.keepIn K (.ref C) = true

theorem run_make {pins : List (Addr × Obj)} {σ : St} {H : Hp} {s : Shared} {Q : VK} {us : List Value} {vs : List V} (M : Mk X.K C f) (F : FnOk X.prog X.w X.K X.mg X.base CX k f fd ps sp) (hr : Room (k + 1) X.A) (hb : Binds X.K fd ps ds) (hd : Vals dvs ds)
    (hx : Passes CX X E) (I : Inv X pins σ H s) (r : Vals vs us)
    (h : ∀ x dx, H x = none → H dx = none → dx ≠ x → sp (.ref x :: (vs ++ dvs)) (upd (upd H dx (.own x)) x (.ins C dx [])) (fun v H2 => v = .non ∧ Q (.ref x) H2) E) :
    wpAny (model X.prog X.w) X.A (call (.ref C) us) (EP X pins σ Q) X.xe s := by
  have hq := h (s.heap.objs.size + 1) s.heap.objs.size (I.hok.fresh (Nat.le_succ _)) (I.hok.fresh (Nat.le_refl _)) (Nat.ne_of_lt (Nat.lt_succ_self _))
  have I2 := Inv.made (C := C) I
  have r2 : Vals (V.ref (s.heap.objs.size + 1) :: (vs ++ dvs)) (Value.ref (s.heap.objs.size + 1) :: (us ++ ds)) := .cons rfl (r.append hd)
  have hl : (Value.ref (s.heap.objs.size + 1) :: us ++ ds).length = ps.length := by
    have e := r2.length
    rw [F.len _ _ _ _ hq] at e
    exact e.symm
  refine wpAny_call (make_map (f := f) I.kIn M.makes M.init (beq_iff_eq.mp M.fn) (codeAny_mono (F.run _ X.stack _ _ ⟨Value.ref (s.heap.objs.size + 1) :: us, []⟩ (Value.ref (s.heap.objs.size + 1) :: (us ++ ds)) _ _ E (hr.make C us [])
    (I2.env0.make C us []) (hb _ (Value.ref (s.heap.objs.size + 1) :: us) I2.kIn hl) r2 hq) fun r s' hq' => ?_))
  cases r with
  | error e => exact hx pins σ _ _ e s' I2 hq'
  | ok fl =>
    cases fl with
    | ret u =>
      obtain ⟨v, H', I3, rv, ev, q3⟩ := I2.after hq'
      subst ev
      exact ⟨rv, ⟨V.ref (s.heap.objs.size + 1), H', I3, rfl, q3⟩⟩
    | next => exact False.elim hq'
    | brk => exact False.elim hq'
    | cont => exact False.elim hq'
theorem pe_make (M : Mk X.K C f) (F : FnOk X.prog X.w X.K X.mg X.base CX k f fd ps sp) (hr : Room (k + 1) X.A) (hg : Gl X x) (hm : X.mg x = some (.ref C)) (hb : Binds X.K fd ps ds) (hd : Vals dvs ds) (hx : Passes CX X E)
    (ha : PA X (e :: es) t) (hdb : (x == ("__debug__" : Str)) = false := by decide) (he : starEach (e :: es) X.env = (false, eval e X.env) :: starEach es X.env := by rfl) (hpl : (backTo pos (starEach es X.env)).any (·.1) = false := by rfl) :
    PE X (.Call (.Name x p) (e :: es) [] pos) (tMake C sp dvs E t) := by
  intro pins s σ H Q I h
  refine wpAny_Call_Name_kw (ld_glob I hg hm ?_ hdb)
  refine PySem.W.callWith_K (h₀ := X.base) I.ok.mod.kin M.kp (thn (ha pos pins s σ H _ I h) fun us s1 ⟨vs, H1, I1, r, q⟩ => ⟨I1.kIn, ?_⟩) he hpl
  exact run_make M F hr hb hd hx I1 r q
theorem pe_make0 (M : Mk X.K C f) (F : FnOk X.prog X.w X.K X.mg X.base CX k f fd ps sp) (hr : Room (k + 1) X.A) (hg : Gl X x) (hm : X.mg x = some (.ref C)) (hb : Binds X.K fd ps ds) (hd : Vals dvs ds) (hx : Passes CX X E)
    (hdb : (x == ("__debug__" : Str)) = false := by decide) : PE X (.Call (.Name x p) [] [] pos) (tMake C sp dvs E tNil) := by
  intro pins s σ H Q I h
  refine wpAny_Call_Name_kw (ld_glob I hg hm ?_ hdb)
  exact PySem.W.callWith_K0 I.kIn M.kp (run_make (us := []) M F hr hb hd hx I .nil h)
end

/-! ### keywords -/
/-- the values of the keywords, from the left -/
def PK (X : Cx) (kws : List Keyword) (t : TA) : Prop :=
  ∀ (pos : Pos) (pins : List (Addr × Obj)) (s : Shared) (σ : St) (H : Hp) (Q : List V → Hp → Prop), Inv X pins σ H s → t σ H Q → wpAny (model X.prog X.w) X.A (evalAll ((backToKw pos (keywordEach kws X.env)).map (·.2))) (AP X pins σ Q) X.xe s
section
variable {X : Cx} {CX : CXT} {k : Nat} {f C : Addr} {fd : FuncData} {ps ks : List Str} {sp : Sp} {E : XK} {x m : Str} {p pos apos kpos : Pos} {e o : Expr} {es : List Expr} {kws : List Keyword} {te ta : TE} {t tk : TA} {nm : Option Str}
theorem pk_nil : PK X [] tNil := fun _ _ _ _ H Q I h => wpAny_evalAll_nil ⟨[], H, I, .nil, h⟩
theorem pk_cons (ha : PE X e te) (hr : PK X kws t) : PK X (⟨nm, e, kpos⟩ :: kws) (tCons te t) := by
  intro pos pins s σ H Q I h
  show wpAny _ _ (evalAll ((do let v ← eval e X.env; standAt pos; pure v) :: (backToKw pos (keywordEach kws X.env)).map (·.2))) _ _ s
  refine wpAny_evalAll_cons (wpAny_bind (thn (ha pins s σ H _ I h) fun u s1 ⟨x, H1, I1, r1, q1⟩ => wpAny_bind (wpAny_standAt (wpAny_pure ?_))))
  exact thn (hr pos pins s1 σ H1 _ I1 q1) fun us s2 ⟨xs, H2, I2, r2, q2⟩ => ⟨x :: xs, H2, I2, .cons r1 r2, q2⟩

/-- how a call with keywords binds: g puts the positional values us and the keywords' values ws (names ks) in the parameters' order, defaults among them -/
structure KBinds (K : PySem.W.Frag) (fd : FuncData) (ps ks : List Str) (g : List Value → List Value → List Value) (gV : List V → List V → List V) : Prop where
  to : ∀ (s : Shared) (us ws : List Value), K.In s.heap → (g us ws).length = ps.length → BindsTo s fd ⟨us, ks.zip ws⟩ (ps.zip (g us ws))
  rel : ∀ {vs : List V} {us : List Value} {zs : List V} {ws : List Value}, Vals vs us → Vals zs ws → Vals (gV vs zs) (g us ws)
def tCallK (sp : Sp) (gV : List V → List V → List V) (E : XK) (t tk : TA) : TE := fun σ H Q => t σ H fun vs H1 => tk σ H1 fun zs H2 => sp (gV vs zs) H2 Q E
variable {g : List Value → List Value → List Value} {gV : List V → List V → List V}
theorem run_fnk {pins : List (Addr × Obj)} {σ : St} {H : Hp} {s : Shared} {Q : VK} {us ws : List Value} {vs zs : List V} (F : FnOk X.prog X.w X.K X.mg X.base CX k f fd ps sp) (hr : Room k X.A) (hb : KBinds X.K fd ps ks g gV) (hx : Passes CX X E)
    (I : Inv X pins σ H s) (r : Vals vs us) (rz : Vals zs ws) (h : sp (gV vs zs) H Q E) : wpAny (model X.prog X.w) X.A (call (.ref f) us (ks.zip ws)) (EP X pins σ Q) X.xe s := by
  have r2 := hb.rel r rz
  have hl : (g us ws).length = ps.length := by rw [← r2.length]; exact F.len _ _ _ _ h
  refine wpAny_call (codeAny_mono (F.run X.A X.stack s H ⟨us, ks.zip ws⟩ (g us ws) (gV vs zs) Q E hr I.env0 (hb.to s us ws I.kIn hl) r2 h) fun r s' hq => ?_)
  cases r with
  | error e => exact hx pins σ H s e s' I hq
  | ok fl =>
    cases fl with
    | ret u => exact I.after hq
    | next => exact False.elim hq
    | brk => exact False.elim hq
    | cont => exact False.elim hq
/-- f(e, .., k = v, ..) -/
theorem pe_callK (F : FnOk X.prog X.w X.K X.mg X.base CX k f fd ps sp) (hr : Room k X.A) (hg : Gl X x) (hm : X.mg x = some (.ref f)) (hk : PySem.W.keepIn X.K (.ref f) = true) (hb : KBinds X.K fd ps ks g gV) (hx : Passes CX X E)
    (ha : PA X (e :: es) t) (hkw : PK X kws tk) (hall : (backToKw pos (keywordEach kws X.env)).all (·.1.isSome) = true := by rfl) (hks : (backToKw pos (keywordEach kws X.env)).filterMap (·.1) = ks := by rfl)
    (hdb : (x == ("__debug__" : Str)) = false := by decide) (he : starEach (e :: es) X.env = (false, eval e X.env) :: starEach es X.env := by rfl)
    (hpl : ((backTo pos (starEach (e :: es) X.env)).any (·.1) || (backToKw pos (keywordEach kws X.env)).any (·.1.isNone)) = false := by rfl) :
    PE X (.Call (.Name x p) (e :: es) kws pos) (tCallK sp gV E t tk) := by
  intro pins s σ H Q I h
  refine wpAny_Call_Name_kw (ld_glob I hg hm ?_ hdb)
  refine PySem.W.callWith_KW (h₀ := X.base) I.ok.mod.kin hk hall (thn (ha pos pins s σ H _ I h) fun us s1 ⟨vs, H1, I1, r, q⟩ => ?_) hpl he
  refine thn (hkw pos pins s1 σ H1 _ I1 q) fun ws s2 ⟨zs, H2, I2, rz, q2⟩ => ⟨I2.kIn, ?_⟩
  rw [hks]
  exact run_fnk F hr hb hx I2 r rz q2
end

/-! ### a def's body keeps its promise -/
/-- names: the parameters first -/
structure FnScope (N P : List Str) (sc : Scope) : Prop where
  kind : sc.kind = .function
  co : sc.isCoroutine = false
  gen : sc.isGenerator = false
  nd : N.Nodup
  pre : N.take P.length = P
  par : ∀ x ∈ P, sc.names.lookup x = some .local ∨ sc.names.lookup x = some .cell
  nofree : ∀ y ∈ sc.names, y.2 ≠ .free

theorem bindL_out {kindOf : Str → Option NameKind} {x : Str} : ∀ {binds : List (Str × Value)} {m : Str → Option Value}, (∀ v, (x, v) ∉ binds) → bindL kindOf binds m x = m x
  | [], _, _ => rfl
  | (n, v) :: r, m, h => by
    unfold bindL
    rw [bindL_out fun w hw => h w (List.mem_cons_of_mem _ hw)]
    split
    · have : x ≠ n := by rintro rfl; exact h v List.mem_cons_self
      simp [this]
    · rfl
theorem bindC_out {kindOf : Str → Option NameKind} {x : Str} : ∀ {binds : List (Str × Value)} {m : Str → Option Value}, (∀ v, (x, v) ∉ binds) → bindC kindOf binds m x = m x
  | [], _, _ => rfl
  | (n, v) :: r, m, h => by
    unfold bindC
    rw [bindC_out fun w hw => h w (List.mem_cons_of_mem _ hw)]
    split
    · rfl
    · have : x ≠ n := by rintro rfl; exact h v List.mem_cons_self
      simp [this]
theorem bindL_get {kindOf : Str → Option NameKind} {x : Str} {v : Value} : ∀ {P : List Str} {vs : List Value} {i : Nat} {m : Str → Option Value}, P.Nodup → P[i]? = some x → vs[i]? = some v → kindOf x = some .local →
    bindL kindOf (P.zip vs) m x = some v
  | [], _, _, _, _, h, _, _ => by simp at h
  | _ :: _, [], _, _, _, _, h, _ => by simp at h
  | p :: P, w :: vs, 0, m, nd, h1, h2, hk => by
    simp at h1 h2; subst h1; subst h2
    show bindL kindOf ((p, w) :: P.zip vs) m p = _
    unfold bindL
    rw [bindL_out fun v hv => (List.nodup_cons.mp nd).1 (List.of_mem_zip hv).1, if_pos hk]
    simp
  | p :: P, w :: vs, i + 1, m, nd, h1, h2, hk => by
    show bindL kindOf ((p, w) :: P.zip vs) m x = _
    unfold bindL
    exact bindL_get (i := i) (List.nodup_cons.mp nd).2 (by simpa using h1) (by simpa using h2) hk
theorem bindC_get {kindOf : Str → Option NameKind} {x : Str} {v : Value} : ∀ {P : List Str} {vs : List Value} {i : Nat} {m : Str → Option Value}, P.Nodup → P[i]? = some x → vs[i]? = some v → kindOf x ≠ some .local →
    bindC kindOf (P.zip vs) m x = some v
  | [], _, _, _, _, h, _, _ => by simp at h
  | _ :: _, [], _, _, _, _, h, _ => by simp at h
  | p :: P, w :: vs, 0, m, nd, h1, h2, hk => by
    simp at h1 h2; subst h1; subst h2
    show bindC kindOf ((p, w) :: P.zip vs) m p = _
    unfold bindC
    rw [bindC_out fun v hv => (List.nodup_cons.mp nd).1 (List.of_mem_zip hv).1, if_neg hk]
    simp
  | p :: P, w :: vs, i + 1, m, nd, h1, h2, hk => by
    show bindC kindOf ((p, w) :: P.zip vs) m x = _
    unfold bindC
    exact bindC_get (i := i) (List.nodup_cons.mp nd).2 (by simpa using h1) (by simpa using h2) hk

/-- the names' values at the entry -/
def start (N : List Str) (vs : List V) : St := vs.map some ++ List.replicate (N.length - vs.length) none

/-- the context of a def's body, at its entry; an exception leaves the frame, then lies as CX says -/
def cxOf (CX : CXT) (P : Program) (w : World) (K : PySem.W.Frag) (mg : Str → Option Value) (base : Heap) (N : List Str) (qual : Str) (scope : Scope) (f : Addr) (cd : Value) (A : Around) (outer : List Env) (s : Shared) (H : Hp) (E : XK) : Cx where
  prog := P
  w := w
  K := K
  mg := mg
  base := base
  A := A.deeper (envOfC qual scope s.heap.objs.size f cd)
  N := N
  s₀ := s
  H₀ := H
  env := envOfC qual scope s.heap.objs.size f cd
  outer := outer
  stack := envOfC qual scope s.heap.objs.size f cd :: outer
  ex := []
  calm := true
  fn := fun _ => true
  pn := []
  xe := fun e s' => wpAny (model P w) (A.deeper (envOfC qual scope s.heap.objs.size f cd)) (leaving (envOfC qual scope s.heap.objs.size f cd) e) (fun _ s'' => CX outer H s E e s'') (fun e' s'' => CX outer H s E e' s'') s'

theorem cell_has {sc : Scope} {n : Nat} {x : Str} (h : sc.names.lookup x = some .cell) : ∃ c, (cellsFrom n sc.names []).lookup x = some c := by
  have q := PySem.W.cellsFrom_some sc.names n [] (.inl h)
  exact Option.isSome_iff_exists.mp q

theorem inv_start {CX : CXT} {P : Program} {w : World} {K : PySem.W.Frag} {mg : Str → Option Value} {base : Heap} {N ps : List Str} {qual : Str} {scope : Scope} {f : Addr} {cd : Value} {A : Around} {outer : List Env} {s s1 : Shared} {H : Hp} {E : XK} {us : List Value} {vs : List V}
    (S : FnScope N ps scope) (hd : A.handled = none) (e0 : Env0 P w K mg base A outer s H) (hl : vs.length = ps.length) (r : Vals vs us)
    (x : InCallC s s.heap.objs.size (bindL (envOfC qual scope s.heap.objs.size f cd).kindOf (ps.zip us) fun _ => none) (cellsFrom (s.heap.objs.size + 1) scope.names []) (bindC (envOfC qual scope s.heap.objs.size f cd).kindOf (ps.zip us) fun _ => none) s1) :
    Inv (cxOf CX P w K mg base N qual scope f cd A outer s H E) [] (start N vs) H s1 := by
  have hpl : ps.length ≤ N.length := by have := congrArg List.length S.pre; rw [List.length_take] at this; omega
  obtain ⟨h1, tk, rfl, hk⟩ := x.done
  have noA : ∀ b : Addr, b ∉ (cxOf CX P w K mg base N qual scope f cd A outer s H E).ex := fun b z => absurd (show b ∈ ([] : List Addr) from z) (by simp)
  refine ⟨⟨e0.mod, S.kind, rfl, rfl, Nat.le_refl _, fun y z c h1 h2 => ?_, fun y hy => ?_, fun y c _ h => ?_, fun _ => hd, Around.frames_deeper e0.frames, .inr ⟨rfl, rfl⟩, fun b z => absurd z (noA b), e0.bs, e0.bsz, fun b _ _ => noA b, fun b z => absurd z (noA b), e0.funs, e0.frf⟩,
    rfl, e0.bare, Un.kept hk, ⟨_, x.toInCall.ns, fun i y v h1 h2 h3 => ?_⟩, fun y c h => ⟨_, x.cell y c h⟩, e0.hok.fresh (Nat.le_refl _), fun y c h => ?_, fun p hp => absurd (show p ∈ ([] : List (Addr × Obj)) from hp) (by simp), e0.hok.kept hk, ?_⟩
  · exact name_of_addr x.apart (PySem.mem_of_lookup h1) (PySem.mem_of_lookup h2)
  · have hy : scope.names.lookup y = some .cell ∨ scope.names.lookup y = some .free := hy
    rcases hy with hy | hy
    · exact cell_has hy
    · exact absurd rfl (S.nofree _ (PySem.mem_of_lookup hy))
  · exact Nat.le_of_lt (x.above y c (PySem.mem_of_lookup h))
  · have hi : i < vs.length := by
      unfold start at h2
      by_cases hi : i < vs.length
      · exact hi
      · rw [List.getElem?_append_right (by simpa using hi)] at h2
        rw [List.getElem?_replicate] at h2
        split at h2 <;> cases h2
    have ha : vs[i]? = some v := by
      unfold start at h2
      rw [List.getElem?_append_left (by simpa using hi), List.getElem?_map] at h2
      cases e : vs[i]? with
      | none => rw [e] at h2; cases h2
      | some a => rw [e] at h2; cases h2; rfl
    obtain ⟨u, hu, rv⟩ := r.get ha
    have hp : ps[i]? = some y := by
      rw [← S.pre, List.getElem?_take_of_lt (by omega)]; exact h1
    have ndP : ps.Nodup := by rw [← S.pre]; exact S.nd.sublist (List.take_sublist _ _)
    refine ⟨u, rv, ?_⟩
    rcases S.par y (List.mem_of_getElem? hp) with k | k
    · exact .inl ⟨k, bindL_get ndP hp hu k⟩
    · obtain ⟨c, e⟩ := cell_has (n := s.heap.objs.size + 1) k
      refine .inr ⟨.inl k, c, e, ?_⟩
      have q := x.cell y c e
      rw [bindC_get ndP hp hu (by show scope.names.lookup y ≠ _; rw [k]; decide)] at q
      exact q
  · exact e0.hok.fresh (Nat.le_of_lt (x.above y c (PySem.mem_of_lookup h)))
  · unfold start
    show _ = N.length
    rw [List.length_append, List.length_map, List.length_replicate]
    omega

/-- THE RULE: a def (or a method) of the text, by its body. The body's reading t is chosen for each entry; it is run at the parameters' values -/
theorem fn_of {CX : CXT} {P : Program} {w : World} {K : PySem.W.Frag} {mg : Str → Option Value} {base : Heap} {k : Nat} {f : Addr} {name qual : Str} {params : Arguments} {body : List Stmt} {scope : Scope} {dV kV doc pm cdv ct oc : Value} {an od : Option Addr}
    {osl : Array (Option Value)} {N ps : List Str} {sp : Sp} (lk : K.lookup f = some ⟨oc, od, .func (PySem.W.fnOf name qual params body scope dV kV doc pm an cdv ct), osl⟩) (hcd : PySem.W.codeIn K cdv qual = true) (S : FnScope N ps scope)
    (len : ∀ vs H Q E, sp vs H Q E → vs.length = ps.length)
    (hbody : ∀ (A : Around) (outer : List Env) (s : Shared) (H : Hp) (vs : List V) (Q : VK) (E : XK), Room k (A.deeper (envOfC qual scope s.heap.objs.size f cdv)) → sp vs H Q E →
      ∃ t, PSs (cxOf CX P w K mg base N qual scope f cdv A outer s H E) body t ∧ t { nx := fun _ H' => Q .non H', rt := Q } (start N vs) H) :
    FnOk P w K mg base CX (k + 1) f (PySem.W.fnOf name qual params body scope dV kV doc pm an cdv ct) ps sp := by
  refine ⟨len, fun A outer s H args us vs Q E hr e0 hb r hsp => ?_⟩
  have hl := len _ _ _ _ hsp
  have KX : K.In s.heap := e0.mod.kin.keeps fun b o e => (e0.bs b o e).1
  have lim : s.heap.NoLimit := e0.mod.nolimit.keeps fun b o e => (e0.bs b o e).1
  have hkind : ∀ y ∈ ps.zip us, scope.names.lookup y.1 = some .local ∨ (scope.names.lookup y.1 = some .cell ∧ ((cellsFrom (s.heap.objs.size + 1) scope.names []).lookup y.1).isSome = true) := fun ⟨n, v⟩ hy => by
    rcases S.par n (List.of_mem_zip hy).1 with q | q
    · exact .inl q
    · exact .inr ⟨q, PySem.W.cellsFrom_some _ _ _ (.inl q)⟩
  refine codeAny_call_function hr.depth (KX _ _ lk) rfl S.co S.gen rfl (PySem.W.codeRec_of KX hcd) (hb _ _ _ _ ?_)
  refine wpAny_newFunctionEnv_cells S.kind hkind fun env he s1 x => ?_
  subst he
  refine ⟨lim.keeps x.toInCall.keep, codeAny_func ?_⟩
  obtain ⟨t, ht, hq⟩ := hbody A outer s H vs Q E (hr.deeper _) hsp
  have I : Inv (cxOf CX P w K mg base N qual scope f cdv A outer s H E) [] (start N vs) H s1 := inv_start S hr.hd e0 hl r x
  refine wpAny_mono (ht [] s1 (start N vs) H _ I hq) (fun fl s' hs => ?_) fun e s' hs => hs
  have fin : ∀ {σ' : St} {H' : Hp} {v : V} {u : Value}, Inv (cxOf CX P w K mg base N qual scope f cdv A outer s H E) [] σ' H' s' → RelV v u → Q v H' → CE outer P w H s Q u s' :=
    fun {σ' H' v u} J rv q => ⟨v, H', J.os, J.bare, J.base, J.hok, rv, q⟩
  cases fl with
  | ret u =>
    obtain ⟨v, σ', H', J, rv, q⟩ := hs
    exact fin J rv q
  | next =>
    obtain ⟨σ', H', J, q⟩ := hs
    exact fin (v := V.non) (u := Value.none) J rfl q
  | brk =>
    obtain ⟨_, _, _, q⟩ := hs
    exact False.elim q
  | cont =>
    obtain ⟨_, _, _, q⟩ := hs
    exact False.elim q
end L2

namespace L2
open PySem PySem.Spec PyProof.Rows
section
variable {X : Cx} {x : Str} {p pos : Pos} {e : Expr} {es : List Expr} {t : TA} {id T : String} {r : List V → Hp → VK → Prop}

def tCB (r : List V → Hp → VK → Prop) (t : TA) : TE := fun σ H Q => t σ H fun vs H1 => r vs H1 Q
/-- f(e, ..), f a built-in function -/
theorem pe_callB (hc : CallR X (.builtin id) r) (hg : Gl X x) (hm : X.mg x = none) (hv : bootBuiltins x = some (.builtin id)) (ha : PA X (e :: es) t) (hn : x ≠ "__name__" := by decide) (hdb : (x == ("__debug__" : Str)) = false := by decide)
    (he : starEach (e :: es) X.env = (false, eval e X.env) :: starEach es X.env := by rfl) (hpl : (backTo pos (starEach es X.env)).any (·.1) = false := by rfl) : PE X (.Call (.Name x p) (e :: es) [] pos) (tCB r t) := by
  intro pins s σ H Q I h
  refine wpAny_Call_Name_kw (ld_blt I hg hm hv ?_ hn hdb)
  exact PyProof.Rows.callWith_builtin1 (thn (ha pos pins s σ H _ I h) fun us s1 ⟨vs, H1, I1, r1, q1⟩ => hc pins s1 σ H1 vs us Q I1 r1 q1) he hpl
/-- T(e, ..), T a built-in type -/
theorem pe_callTy (hc : CallR X (.type T) r) (hg : Gl X x) (hm : X.mg x = none) (hv : bootBuiltins x = some (.type T)) (ha : PA X (e :: es) t) (hn : x ≠ "__name__" := by decide) (hdb : (x == ("__debug__" : Str)) = false := by decide)
    (he : starEach (e :: es) X.env = (false, eval e X.env) :: starEach es X.env := by rfl) (hpl : (backTo pos (starEach es X.env)).any (·.1) = false := by rfl) : PE X (.Call (.Name x p) (e :: es) [] pos) (tCB r t) := by
  intro pins s σ H Q I h
  refine wpAny_Call_Name_kw (ld_blt I hg hm hv ?_ hn hdb)
  exact PyProof.Rows.callWith_type1 (thn (ha pos pins s σ H _ I h) fun us s1 ⟨vs, H1, I1, r1, q1⟩ => hc pins s1 σ H1 vs us Q I1 r1 q1) he hpl
/-- T() -/
theorem pe_callTy0 (hc : CallR X (.type T) r) (hg : Gl X x) (hm : X.mg x = none) (hv : bootBuiltins x = some (.type T)) (hn : x ≠ "__name__" := by decide) (hdb : (x == ("__debug__" : Str)) = false := by decide) :
    PE X (.Call (.Name x p) [] [] pos) (tCB r tNil) := by
  intro pins s σ H Q I h
  refine wpAny_Call_Name_kw (ld_blt I hg hm hv ?_ hn hdb)
  exact PyProof.Rows.callWith_type0 (hc pins s σ H [] [] Q I .nil h)
end
end L2

namespace HT
open PySem PyProof.Rows

/-- t < u of tuples of ints -/
def lexLt : List Int → List Int → Bool
  | [], [] => false
  | [], _ :: _ => true
  | _ :: _, [] => false
  | x :: xs, y :: ys => if x = y then lexLt xs ys else decide (x < y)
theorem lexLt_cons (x y : Int) (xs ys : List Int) : lexLt (x :: xs) (y :: ys) = if x = y then lexLt xs ys else decide (x < y) := rfl
theorem lexLt_nil_nil : lexLt [] [] = false := rfl
theorem lexLt_nil_cons (y : Int) (ys : List Int) : lexLt [] (y :: ys) = true := rfl
theorem lexLt_cons_nil (x : Int) (xs : List Int) : lexLt (x :: xs) [] = false := rfl

theorem eqAt_int (A : Around) (s : Shared) (a : Int) (t : Tok) (c : Int) (u : Tok) : ∃ e, SeqAt.EqAt A s (.int a t) (.int c u) e ∧ (e = true ↔ a = c) :=
  ⟨(a == c), SeqAt.EqAt.int_int a t c u, by simp⟩
theorem rcLt_int (A : Around) (s : Shared) (a : Int) (t : Tok) (c : Int) (u : Tok) (prog : Program) (w : World) (E : Value → Shared → Prop) (Q : Value → Shared → Prop) (h : Q (.bool (decide (a < c))) s) :
    wpAny (model prog w) A (richCompare .Lt (.int a t) (.int c u)) Q E s :=
  (PyProof.Rows.lt_int h : wpAny (model prog w) A (compareOp .Lt (.int a t) (.int c u)) Q E s)

section
open PySem.SeqAt
open PySem.AutoSeq1 (wpAny_loadPart')
open PySem.MeetsSeq PySem.MeetsSeq2 PySem.MeetsSeq3

theorem tuple_lt_ints (l b : Addr) (items items2 : Array Value) (n n2 : Nat) (dd dd2 : Option Addr) (sl sl2 : Array (Option Value)) (ns ms : List Int) (hi : IntsAre items.toList ns) (hj : IntsAre items2.toList ms) :
    Meets (Builtin.«tuple.__lt__» ⟨[.ref l, .ref b], []⟩)
      (fun _ R s => s.heap.get? l = some { cls := .type "tuple", dict := dd, data := .seq items n, slots := sl } ∧ s.heap.get? b = some { cls := .type "tuple", dict := dd2, data := .seq items2 n2, slots := sl2 } ∧
        R (.ok (.ret (.bool (lexLt ns ms)))) s) :=
  .of_wp fun prog w A R s h => by
    obtain ⟨hp, g, d, tk, os⟩ := s; obtain ⟨hl, hb, h⟩ := h
    have f2 := AutoSeq1.sub_tuple_tuple
    have z1 : items.size = ns.length := by rw [← hi.length]; simp
    have z2 : items2.size = ms.length := by rw [← hj.length]; simp
    wp_walk using wpAny_loadPart' hl, wpAny_loadPart' hb, wpAny_forIn_list _ (fun rest b s' => b.1 = none ∧ s' = ⟨hp, g, d, tk, os⟩ ∧ ∃ (vs ws : List Value) (ns' ms' : List Int), rest = vs.zip ws ∧
      IntsAre vs ns' ∧ IntsAre ws ms' ∧ ns'.length + items2.size = ms'.length + items.size ∧ R (.ok (.ret (.bool (lexLt ns' ms')))) ⟨hp, g, d, tk, os⟩) _
    case turn =>
      rintro ⟨y, x⟩ rest b s' ⟨hb', rfl, vs, ws, ns', ms', hz, hvi, hwi, hlen, hR⟩
      cases hvi with
      | nil => rw [List.zip_nil_left] at hz; cases hz
      | cons a t hvi' =>
        cases hwi with
        | nil => rw [List.zip_nil_right] at hz; cases hz
        | cons c u hwi' =>
          rw [List.zip_cons_cons] at hz
          injection hz with hyx hrest
          injection hyx with hy hx
          subst hy hx
          rw [lexLt_cons] at hR
          simp only [List.length_cons] at hlen
          obtain ⟨e, he, hiff⟩ := eqAt_int A.in1 ⟨hp, g, d, tk, os⟩ a t c u
          refine wpAny_bind (he prog w _ _ ?_)
          cases e with
          | true =>
            rw [if_pos (hiff.mp rfl)] at hR
            wp_walk
            exact ⟨rfl, rfl, _, _, _, _, hrest, hvi', hwi', by omega, hR⟩
          | false =>
            rw [if_neg (fun q => absurd (hiff.mpr q) Bool.false_ne_true)] at hR
            have hri := rcLt_int A.in1 ⟨hp, g, d, tk, os⟩ a t c u prog w
            wp_walk using hri
            exact ⟨_, rfl, by simpa using hR⟩
    case fin =>
      rintro ⟨b1, b2⟩ s' ⟨hb', rfl, vs, ws, ns', ms', hz, hvi, hwi, hlen, hR⟩
      simp only at hb'
      subst hb'
      have hv : lexLt ns' ms' = decide (items.size < items2.size) := by
        cases hvi with
        | nil =>
          cases hwi with
          | nil =>
            simp only [List.length_nil] at hlen
            rw [lexLt_nil_nil]
            exact (decide_eq_false (by omega)).symm
          | cons c u hw =>
            simp only [List.length_nil, List.length_cons] at hlen
            rw [lexLt_nil_cons]
            exact (decide_eq_true (by omega)).symm
        | cons a t hv =>
          cases hwi with
          | nil =>
            simp only [List.length_nil, List.length_cons] at hlen
            rw [lexLt_cons_nil]
            exact (decide_eq_false (by omega)).symm
          | cons c u hw =>
            rw [List.zip_cons_cons] at hz
            cases hz
      rw [hv] at hR
      wp_walk
      exact ⟨_, rfl, by simpa [Builtin.Tuple.tupleCompareSizes] using hR⟩
    case h =>
      exact ⟨rfl, rfl, items.toList, items2.toList, ns, ms, rfl, hi, hj, by omega, h⟩
end

section
variable {prog : Program} {w : World} {A : Around} {E : Value → Shared → Prop} {s : Shared}

theorem lt_tupInts {l b : Addr} {items items2 : Array Value} {ns ms : List Int} {Q : Value → Shared → Prop} (hl : IsTup s.heap l items) (hb : IsTup s.heap b items2) (hi : IntsAre items.toList ns) (hj : IntsAre items2.toList ms)
    (hu : A.units < cLine) (h : Q (.bool (lexLt ns ms)) s) : wpAny (model prog w) A (compareOp .Lt (.ref l) (.ref b)) Q E s := by
  obtain ⟨⟨cls, dd, data, sl⟩, ho, hc, n, hd⟩ := id hl
  obtain ⟨⟨cls2, dd2, data2, sl2⟩, ho2, hc2, n2, hd2⟩ := id hb
  simp only at hc hd hc2 hd2
  subst hc hd hc2 hd2
  exact richCompare_meets_room (op := .Lt) ⟨_, ho, rfl⟩ ⟨_, ho2, rfl⟩ PySem.F.slot_tuple_lt PySem.F.entry_tuple_lt (PySem.F.args_tuple_lt_2 _ _) (tuple_lt_ints l b items items2 n n2 dd dd2 sl sl2 ns ms hi hj)
    ⟨ho, ho2, show Value.bool (lexLt ns ms) ≠ Value.notImplemented ∧ Q (.bool (lexLt ns ms)) s from ⟨(fun x => nomatch x), h⟩⟩ hu

/-- t + u, t not empty -/
theorem cat_tup {t b : Addr} {vs ws : List Value} {Q : Value → Shared → Prop} (ht : IsTup s.heap t vs.toArray) (hb : IsTup s.heap b ws.toArray) (hv : vs ≠ [])
    (h1 : ws = [] → Q (.ref t) s) (h2 : ws ≠ [] → Q (.ref s.heap.objs.size) { s with heap := s.heap.push { cls := .type "tuple", data := .seq (vs ++ ws).toArray } })
    (hsz : vs.length + ws.length ≤ sizeLine) : wpAny (model prog w) A (binaryOp .Add (.ref t) (.ref b)) Q E s := by
  obtain ⟨⟨cls, dd, data, sl⟩, ho, hc, n, hd⟩ := id ht
  obtain ⟨⟨cls2, dd2, data2, sl2⟩, ho2, hc2, n2, hd2⟩ := id hb
  simp only at hc hd hc2 hd2
  subst hc hd hc2 hd2
  have e : vs.toArray ++ ws.toArray = (vs ++ ws).toArray := by simp
  by_cases hw : ws = []
  · exact concat_meets ⟨_, ho, rfl⟩ ⟨_, ho2, rfl⟩ noFill_tuple_add seq_tuple_add PySem.F.slot_tuple_add PySem.F.entry_tuple_add (PySem.F.args_tuple_add_2 _ _)
      (tuple_addW1 t b vs.toArray ws.toArray n n2 dd dd2 sl sl2 (by simpa using hv) (by simp [hw])) ⟨ho, ho2, h1 hw⟩
  · refine concat_meets ⟨_, ho, rfl⟩ ⟨_, ho2, rfl⟩ noFill_tuple_add seq_tuple_add PySem.F.slot_tuple_add PySem.F.entry_tuple_add (PySem.F.args_tuple_add_2 _ _)
      (tuple_addW2 t b vs.toArray ws.toArray n n2 dd dd2 sl sl2 (by simpa using hv) (by simpa using hw) (by rw [List.size_toArray, List.size_toArray]; exact hsz)) ⟨ho, ho2, ?_⟩
    rw [e]
    exact h2 hw

/-! ### t[a:b], not the whole -/
/-- a slice's bound as a place among n (d where it is left out) -/
def sIx (n d : Nat) : Option Int → Nat
  | none => d
  | some v => if v < 0 then (v + (n : Int)).toNat else min v.toNat n
theorem sIx_none (n d : Nat) : sIx n d none = d := rfl
theorem sIx_nat (n d k : Nat) : sIx n d (some (k : Int)) = min k n := by
  show (if (k : Int) < 0 then ((k : Int) + (n : Int)).toNat else min (k : Int).toNat n) = min k n
  rw [if_neg (by omega), Int.toNat_natCast]
theorem sIx_le (n d : Nat) (hd : d ≤ n) (o : Option Int) : sIx n d o ≤ n := by
  cases o with
  | none => exact hd
  | some v =>
    show (if v < 0 then (v + (n : Int)).toNat else min v.toNat n) ≤ n
    by_cases hv : v < 0
    · rw [if_pos hv]; omega
    · rw [if_neg hv]; exact Nat.min_le_right _ _
theorem clip_eq (v : Int) (n d : Nat) : (if v < 0 then max (v + (n : Int)) 0 else min v (n : Int)) = ((sIx n d (some v) : Nat) : Int) := by
  show (if v < 0 then max (v + (n : Int)) 0 else min v (n : Int)) = (((if v < 0 then (v + (n : Int)).toNat else min v.toNat n) : Nat) : Int)
  by_cases hv : v < 0
  · simp only [if_pos hv]; omega
  · simp only [if_neg hv]; omega
theorem adjust_gen (lo hi : Option Int) (n : Nat) : Builtin.Slice.sliceAdjust lo hi 1 (n : Int) = (((sIx n 0 lo : Nat) : Int), ((sIx n n hi : Nat) : Int)) := by
  have h1 : ¬ ((1 : Int) < 0) := by omega
  unfold Builtin.Slice.sliceAdjust
  simp only [h1, if_false]
  refine Prod.ext ?_ ?_
  · cases lo with
    | none => rfl
    | some v => exact clip_eq v n 0
  · cases hi with
    | none => rfl
    | some v => exact clip_eq v n n
theorem places_gen (i j : Nat) : Builtin.Slice.slicePlaces (i : Int) (j : Int) 1 = j - i := by
  unfold Builtin.Slice.slicePlaces
  have h1 : (1 : Int) > 0 := by omega
  simp only [h1, if_true, Int.ediv_one]
  split <;> omega
theorem slicePart_ {v : Value} {o : Option Int} {Q : Option Int → Shared → Prop} (p : IsPart v o) (h : Q o s) : wpAny (model prog w) A (Builtin.Slice.slicePartIndex v) Q E s := by
  cases p with
  | none => exact slicePart_none h
  | int i t => exact slicePart_int h
theorem sliceApplied_gen {sl : Addr} {vl vu : Value} {lo hi : Option Int} {n : Nat} {Q : Int × Int × Nat → Shared → Prop} (hs : s.heap.IsSliceOf sl vl vu .none) (pl : IsPart vl lo) (pu : IsPart vu hi)
    (h : Q (((sIx n 0 lo : Nat) : Int), 1, sIx n n hi - sIx n 0 lo) s) : wpAny (model prog w) A (Builtin.Slice.sliceApplied (.ref sl) (pure (n : Int))) Q E s := by
  obtain ⟨os, hos, hcs, hds⟩ := id hs
  unfold Builtin.Slice.sliceApplied Builtin.Slice.sliceFields
  refine wpAny_bind (wpAny_bind (wpAny_field hos hds (x := vl) rfl (wpAny_bind (wpAny_field hos hds (x := vu) rfl (wpAny_bind (wpAny_field hos hds (x := .none) rfl (wpAny_pure ?_)))))))
  refine wpAny_bind (slicePart_none ?_)
  show wpAny _ _ (if ((1 : Int) == 0) = true then _ else _) _ _ s
  rw [if_neg (by decide)]
  refine wpAny_bind (slicePart_ pl (wpAny_bind (slicePart_ pu (wpAny_bind (wpAny_pure ?_)))))
  show wpAny _ _ (match Builtin.Slice.sliceAdjust lo hi 1 (n : Int) with | (lo, hi) => pure (lo, (1 : Int), Builtin.Slice.slicePlaces lo hi 1)) _ _ s
  rw [adjust_gen lo hi n]
  show wpAny _ _ (pure (((sIx n 0 lo : Nat) : Int), (1 : Int), Builtin.Slice.slicePlaces ((sIx n 0 lo : Nat) : Int) ((sIx n n hi : Nat) : Int) 1)) _ _ s
  rw [places_gen]
  exact wpAny_pure h
theorem pick_gen (xs : Array Value) (i k : Nat) : ((List.range k).filterMap fun (m : Nat) => xs[((i : Int) + (m : Int) * 1).toNat]?).toArray = ((xs.toList.drop i).take k).toArray := by
  have e : (fun (m : Nat) => xs[((i : Int) + (m : Int) * 1).toNat]?) = fun m => xs[i + m]? := by
    funext m
    have : ((i : Int) + (m : Int) * 1).toNat = i + m := by omega
    rw [this]
  rw [e]
  have := pick_run xs i k
  rw [List.filterMap_map] at this
  have e2 : ((fun x => xs[x]?) ∘ fun x => i + x) = fun m => xs[i + m]? := rfl
  rw [e2] at this
  rw [this]

theorem getItem_tuple_cut {t sl : Addr} {items : Array Value} {vl vu : Value} {lo hi : Option Int} {Q : Value → Shared → Prop} (ht : IsTup s.heap t items) (hs : s.heap.IsSliceOf sl vl vu .none) (pl : IsPart vl lo) (pu : IsPart vu hi)
    (hw : ¬ (sIx items.size 0 lo = 0 ∧ sIx items.size items.size hi = items.size))
    (h : Q (.ref s.heap.objs.size) { s with heap := s.heap.push { cls := .type "tuple", data := .seq ((items.toList.drop (sIx items.size 0 lo)).take (sIx items.size items.size hi - sIx items.size 0 lo)).toArray } })
    (hsz : items.size ≤ sizeLine) : wpAny (model prog w) A (getItem (.ref t) (.ref sl)) Q E s := by
  have htake : sizeOk (.seq ((items.toList.drop (sIx items.size 0 lo)).take (sIx items.size items.size hi - sIx items.size 0 lo)).toArray) := by
    show ((items.toList.drop (sIx items.size 0 lo)).take (sIx items.size items.size hi - sIx items.size 0 lo)).toArray.size ≤ sizeLine
    rw [List.size_toArray, List.length_take, List.length_drop, Array.length_toList]
    omega
  have hj : sIx items.size items.size hi ≤ items.size := sIx_le _ _ (Nat.le_refl _) hi
  obtain ⟨os, hos, hcs, hds⟩ := id hs
  have hTs : s.TypeIs (.ref sl) "slice" := ⟨os, hos, hcs⟩
  unfold getItem
  try with_reducible refine wpAny_holding ?_
  first | refine wpAny_bind (wpAny_pure ?_) | skip
  refine wpAny_bind (wpAny_sequenceKey ht.typeIs (by decide) ?_)
  refine wpAny_bind (wpAny_callSpecial?_slot (name := Str.ofString "__getitem__") ht.typeIs PyProof.Rows.slot_tuple_getitem
    (wpAny_call_entry PyProof.Rows.slot_tuple_getitem ht.typeIs entry_tuple_getitem ?_ (args_tuple_getitem _ _)))
  show wpAny _ _ (Builtin.Tuple.tupleItemsOf (.ref t) >>= _) _ _ s
  refine wpAny_bind (tupleItemsOf_ ht ?_)
  refine wpAny_bind (wpAny_typeOf hTs ?_)
  rw [if_pos (by decide)]
  refine wpAny_bind (sliceApplied_gen hs pl pu ?_)
  have hno : ¬ ((((sIx items.size 0 lo : Nat) : Int) == 0 && (1 : Int) == 1 && (sIx items.size items.size hi - sIx items.size 0 lo) == items.size) = true) := by
    intro q
    rw [Bool.and_eq_true, Bool.and_eq_true] at q
    have q1 : ((sIx items.size 0 lo : Nat) : Int) = 0 := eq_of_beq q.1.1
    have q2 : sIx items.size items.size hi - sIx items.size 0 lo = items.size := eq_of_beq q.2
    exact hw ⟨by omega, by omega⟩
  show wpAny _ _ (if (((sIx items.size 0 lo : Nat) : Int) == 0 && (1 : Int) == 1 && (sIx items.size items.size hi - sIx items.size 0 lo) == items.size) = true then _ else _) _ _ s
  rw [if_neg hno, pick_gen]
  first
    | exact wpAny_bind (m := Builtin.Tuple.tupleExact _) (wpAny_newObj_type (wpAny_pure ⟨_, rfl, wpAny_pure h⟩) htake)
    | exact wpAny_bind (m := Builtin.Tuple.tupleExact _) (wpAny_newObj_type (wpAny_bind (wpAny_pure (wpAny_pure ⟨_, rfl, wpAny_pure h⟩))) htake)
    | exact wpAny_bind (wpAny_bind (m := Builtin.Tuple.tupleExact _) (wpAny_newObj_type (wpAny_pure (wpAny_pure ⟨_, rfl, wpAny_pure h⟩)) htake))
    | exact wpAny_bind (wpAny_bind (m := Builtin.Tuple.tupleExact _) (wpAny_newObj_type (wpAny_pure ⟨_, rfl, wpAny_pure h⟩) htake))
end
end HT

namespace L2
open PySem PySem.Spec PyProof.Rows

/-! ### the parts of a slice -/
abbrev TO := St → Hp → (Option Int → Hp → Prop) → Prop
/-- a slice's part (left out, or an int) -/
def PO (X : Cx) (e : Option Expr) (t : TO) : Prop :=
  ∀ (pins : List (Addr × Obj)) (s : Shared) (σ : St) (H : Hp) (Q : Option Int → Hp → Prop), Inv X pins σ H s → t σ H Q →
    wpAny (model X.prog X.w) X.A (evalPart e X.env) (fun u s' => ∃ o H', Inv X pins σ H' s' ∧ IsPart u o ∧ Q o H') X.xe s
def tNoPart : TO := fun _ H Q => Q none H
def tPart (t : TE) : TO := fun σ H Q => t σ H fun x H1 => ∃ i, x = .int i ∧ Q (some i) H1

theorem intsAre_of {ns : List Int} : ∀ {us : List Value}, Vals (ns.map V.int) us → IntsAre us ns := by
  induction ns with
  | nil => intro us r; rw [List.map_nil] at r; cases r; exact .nil
  | cons n ns ih =>
    intro us r
    rw [List.map_cons] at r
    cases r with
    | cons r1 r2 =>
      obtain ⟨t, e⟩ := r1
      subst e
      exact .cons n t (ih r2)

section
variable {X : Cx} {e : Expr} {te : TE} {lo hi : Option Expr} {tl th : TO} {pos p2 : Pos}

theorem po_none : PO X none tNoPart := by
  intro pins s σ H Q I h
  rw [evalPart_none]
  exact wpAny_pure ⟨none, H, I, .none, h⟩
theorem po_some (h : PE X e te) : PO X (some e) (tPart te) := by
  intro pins s σ H Q I hw
  rw [evalPart_some]
  refine thn (h pins s σ H _ I hw) fun u s1 ⟨x, H1, I1, r1, q1⟩ => ?_
  obtain ⟨i, rfl, q⟩ := q1
  obtain ⟨t, rfl⟩ := r1
  exact ⟨some i, H1, I1, .int i t, q⟩

/-- what a slice of a value is, by values: the slice object stands at sl -/
def SlR (X : Cx) (r : V → Option Int → Option Int → Hp → VK → Prop) : Prop :=
  ∀ (pins : List (Addr × Obj)) (s : Shared) (σ : St) (H : Hp) (x : V) (v vl vu : Value) (lo hi : Option Int) (sl : Addr) (Q : VK), Inv X pins σ H s → RelV x v → s.heap.IsSliceOf sl vl vu .none → IsPart vl lo → IsPart vu hi → r x lo hi H Q →
    ∃ T id, typeLookup (.type T) "__getitem__" = pure (some (.builtin id)) ∧ s.TypeIs v T ∧ wpAny (model X.prog X.w) X.A (getItem v (.ref sl)) (EP X pins σ Q) X.xe s
theorem SlR.or {r r' : V → Option Int → Option Int → Hp → VK → Prop} (h : SlR X r) (h' : SlR X r') : SlR X (fun x lo hi H Q => r x lo hi H Q ∨ r' x lo hi H Q) := by
  intro pins s σ H x v vl vu lo hi sl Q I rx hs pl pu q
  rcases q with q | q
  · exact h pins s σ H x v vl vu lo hi sl Q I rx hs pl pu q
  · exact h' pins s σ H x v vl vu lo hi sl Q I rx hs pl pu q
def tSl (r : V → Option Int → Option Int → Hp → VK → Prop) (te : TE) (tl th : TO) : TE := fun σ H Q => te σ H fun x H1 => tl σ H1 fun l H2 => th σ H2 fun u H3 => r x l u H3 Q
/-- a[lo:hi], any a -/
theorem pe_slice {r : V → Option Int → Option Int → Hp → VK → Prop} (hr : SlR X r) (he : PE X e te) (hl : PO X lo tl) (hu : PO X hi th) : PE X (.Subscript e (.Slice lo hi none p2) pos) (tSl r te tl th) := by
  intro pins s σ H Q I h
  refine Subscript_ (thn (he pins s σ H _ I h) fun v s1 ⟨x, H1, I1, r1, q1⟩ => ?_)
  refine wpAny_Slice (thn (hl pins s1 σ H1 _ I1 q1) fun vl s2 ⟨l, H2, I2, pl, q2⟩ => thn (hu pins s2 σ H2 _ I2 q2) fun vu s3 ⟨u, H3, I3, pu, q3⟩ => ?_)
  rw [evalPart_none]
  refine wpAny_pure ?_
  have I4 : Inv X pins σ H3 { s3 with heap := s3.heap.push { cls := .type "slice", data := .fields #[vl, vu, .none] } } := I3.kept (t' := s3.toks) fun b ob q => Heap.get?_push_of_some _ q
  obtain ⟨T, id, hT, ht, hg⟩ := hr pins { s3 with heap := s3.heap.push { cls := .type "slice", data := .fields #[vl, vu, .none] } } σ H3 x v vl vu l u s3.heap.objs.size Q I4 r1 (Heap.IsSliceOf.new ..) pl pu q3
  show wpAny (model X.prog X.w) X.A (subscriptTail e (.Slice lo hi none p2) v (.ref s3.heap.objs.size)) (EP X pins σ Q) X.xe { s3 with heap := s3.heap.push { cls := .type "slice", data := .fields #[vl, vu, .none] } }
  exact tail_any (ops := [.ref s3.heap.objs.size, v]) ht hT hg (by with_unfolding_all rfl)

/-- the items of xs[lo:hi] -/
def cutV (xs : List V) (lo hi : Option Int) : List V := (xs.drop (HT.sIx xs.length 0 lo)).take (HT.sIx xs.length xs.length hi - HT.sIx xs.length 0 lo)
theorem cutV_length (xs : List V) (lo hi : Option Int) : (cutV xs lo hi).length ≤ xs.length := by
  unfold cutV
  rw [List.length_take, List.length_drop]
  omega
/-- t[lo:hi], not the whole of it (the whole would be t itself) -/
def rSlT (K : PySem.W.Frag) : V → Option Int → Option Int → Hp → VK → Prop := fun x lo hi H Q => ∃ a xs, x = .ref a ∧ SqT K H a xs ∧
  ¬ (HT.sIx xs.length 0 lo = 0 ∧ HT.sIx xs.length xs.length hi = xs.length) ∧ ∀ p, H p = none → Q (.ref p) (upd H p (.tup (cutV xs lo hi)))
theorem sl_tup : SlR X (rSlT X.K) := by
  intro pins s σ H x v vl vu lo hi sl Q I rx hs pl pu h
  obtain ⟨a, xs, rfl, hx, hw, q⟩ := h
  cases rx
  obtain ⟨its, r, ht, hz⟩ := I.tuple hx
  have hlen : its.toArray.size = xs.length := by rw [List.size_toArray]; exact r.length.symm
  refine ⟨"tuple", _, PyProof.Rows.slot_tuple_getitem.lookup, ht.typeIs, ?_⟩
  refine HT.getItem_tuple_cut ht hs pl pu (by rw [hlen]; exact hw) ?_ (by rw [hlen]; exact hz)
  rw [hlen]
  refine ⟨.ref s.heap.objs.size, _, I.laid (t' := s.toks) (o := .tup (cutV xs lo hi)) (fun b ob q => Heap.get?_push_of_some _ q) (Nat.le_refl _) ?_, rfl, q _ (I.hok.fresh (Nat.le_refl _))⟩
  exact ⟨Nat.le_trans (cutV_length xs lo hi) hz, _, (r.drop (HT.sIx xs.length 0 lo)).take (HT.sIx xs.length xs.length hi - HT.sIx xs.length 0 lo), IsTup.new _ _⟩

/-! ### t < u, t + u -/
def rLtT (K : PySem.W.Frag) : R2 := fun x y H Q => ∃ a b ns ms, x = .ref a ∧ y = .ref b ∧ SqT K H a (ns.map V.int) ∧ SqT K H b (ms.map V.int) ∧ Q (.bl (HT.lexLt ns ms)) H
theorem op_ltT (hu : X.A.units < cLine) : OpR X (compareOp .Lt) (rLtT X.K) := by
  intro pins s σ H x y v u Q I rx ry h
  obtain ⟨a, b, ns, ms, rfl, rfl, ha, hb, q⟩ := h
  cases rx
  cases ry
  obtain ⟨its, r1, p1, _⟩ := I.tuple ha
  obtain ⟨its2, r2, p2, _⟩ := I.tuple hb
  have i1 : IntsAre its.toArray.toList ns := intsAre_of r1
  have i2 : IntsAre its2.toArray.toList ms := intsAre_of r2
  exact HT.lt_tupInts p1 p2 i1 i2 hu ⟨.bl (HT.lexLt ns ms), H, I, rfl, q⟩
/-- t + u, t not empty: u empty gives t itself -/
def rCatT (K : PySem.W.Frag) : R2 := fun x y H Q => ∃ a b xs ys, x = .ref a ∧ y = .ref b ∧ SqT K H a xs ∧ SqT K H b ys ∧ xs ≠ [] ∧ xs.length + ys.length ≤ sizeLine ∧
  (ys = [] → Q (.ref a) H) ∧ (ys ≠ [] → ∀ p, H p = none → Q (.ref p) (upd H p (.tup (xs ++ ys))))
theorem Vals.nil_iff {xs : List V} {us : List Value} (r : Vals xs us) : us = [] ↔ xs = [] := by
  cases r with
  | nil => simp
  | cons _ _ => simp
theorem op_catT : OpR X (binaryOp .Add) (rCatT X.K) := by
  intro pins s σ H x y v u Q I rx ry h
  obtain ⟨a, b, xs, ys, rfl, rfl, ha, hb, hx, hz, q1, q2⟩ := h
  cases rx
  cases ry
  obtain ⟨its, r1, p1, _⟩ := I.tuple ha
  obtain ⟨its2, r2, p2, _⟩ := I.tuple hb
  refine HT.cat_tup p1 p2 (fun z => hx (r1.nil_iff.mp z)) (fun z => ⟨.ref a, H, I, rfl, q1 (r2.nil_iff.mp z)⟩) (fun z => ?_) (by rw [← r1.length, ← r2.length]; exact hz)
  refine ⟨.ref s.heap.objs.size, _, I.laid (t' := s.toks) (o := .tup (xs ++ ys)) (fun b ob q => Heap.get?_push_of_some _ q) (Nat.le_refl _) ?_, rfl, q2 (fun w => z (r2.nil_iff.mpr w)) _ (I.hok.fresh (Nat.le_refl _))⟩
  exact ⟨by rw [List.length_append]; exact hz, _, r1.append r2, IsTup.new _ _⟩
/-- tuple(t) -/
theorem call_tupleT : CallR X (.type "tuple") (fun xs H Q => ∃ a ys, xs = [.ref a] ∧ SqT X.K H a ys ∧ Q (.ref a) H) := by
  intro pins s σ H xs us Q I r h
  obtain ⟨a, ys, rfl, ha, q⟩ := h
  obtain ⟨u, rfl, ru⟩ := vals1 r
  cases ru
  obtain ⟨its, _, p1, _⟩ := I.tuple ha
  exact call_tuple_same (items := its.toArray) p1 ⟨.ref a, H, I, rfl, q⟩
end
end L2

namespace L2
open PySem PySem.Spec PyProof.Rows

/-! ### places -/
/-- the place that an index of any sign means -/
def ixN (n : Nat) (i : Int) : Option Nat := if 0 ≤ i then (if i < n then some i.toNat else none) else if -(n : Int) ≤ i then some (i + n).toNat else none
def atI {α : Type} (xs : List α) (i : Int) : Option α := (ixN xs.length i).bind fun j => xs[j]?
theorem ixN_seq {n : Nat} {i : Int} {j : Nat} (h : ixN n i = some j) : seqIndex? i n = some j ∧ j < n ∧ -(n : Int) ≤ i ∧ i < n := by
  unfold ixN at h
  by_cases h0 : 0 ≤ i
  · rw [if_pos h0] at h
    by_cases h1 : i < n
    · rw [if_pos h1] at h
      have e : i.toNat = j := Option.some.inj h
      exact ⟨by rw [seqIndex_of h0 h1, e], by omega, by omega, h1⟩
    · rw [if_neg h1] at h; cases h
  · rw [if_neg h0] at h
    by_cases h1 : -(n : Int) ≤ i
    · rw [if_pos h1] at h
      have e : (i + n).toNat = j := Option.some.inj h
      exact ⟨by rw [seqIndex_neg (by omega) h1, e], by omega, h1, by omega⟩
    · rw [if_neg h1] at h; cases h
theorem atI_get {α : Type} {xs : List α} {i : Int} {v : α} (h : atI xs i = some v) : ∃ j, seqIndex? i xs.length = some j ∧ xs[j]? = some v ∧ j < xs.length ∧ -(xs.length : Int) ≤ i ∧ i < xs.length := by
  unfold atI at h
  cases e : ixN xs.length i with
  | none => rw [e] at h; cases h
  | some j =>
    rw [e] at h
    obtain ⟨h1, h2, h3, h4⟩ := ixN_seq e
    exact ⟨j, h1, h, h2, h3, h4⟩
theorem atI_nat {α : Type} {xs : List α} {j : Nat} {v : α} (h : xs[j]? = some v) : atI xs (j : Int) = some v := by
  have hj : j < xs.length := (List.getElem?_eq_some_iff.mp h).1
  have e : ixN xs.length (j : Int) = some j := by
    unfold ixN
    rw [if_pos (by omega), if_pos (by omega)]; simp
  unfold atI; rw [e]; exact h
theorem atI_last {α : Type} (xs : List α) (v : α) : atI (xs ++ [v]) (-1) = some v := by
  have hl : (xs ++ [v]).length = xs.length + 1 := by simp
  have e : ixN (xs ++ [v]).length (-1) = some xs.length := by
    unfold ixN
    rw [hl, if_neg (by decide), if_pos (by omega)]
    congr 1
    omega
  unfold atI
  rw [e]
  show (xs ++ [v])[xs.length]? = some v
  simp

/-! ### what may be subscripted -/
/-- what stands as an index of a plain subscript -/
def PlainIx (b : Expr) : Prop := ∀ o i, subscripted b false o i = operate [o, i] (getItem o i)
/-- a subscript by values -/
def IxR (X : Cx) (r : R2) : Prop :=
  ∀ (value slice : Expr) (pins : List (Addr × Obj)) (s : Shared) (σ : St) (H : Hp) (x y : V) (v u : Value) (Q : VK), Inv X pins σ H s → RelV x v → RelV y u → r x y H Q →
    subscripted slice false v u = operate [v, u] (getItem v u) → wpAny (model X.prog X.w) X.A (subscriptTail value slice v u) (EP X pins σ Q) X.xe s
/-- a call of a builtin's method by values: the receiver, the arguments -/
def MtR (X : Cx) (id : String) (r : V → List V → Hp → VK → Prop) : Prop :=
  ∀ (pins : List (Addr × Obj)) (s : Shared) (σ : St) (H : Hp) (x : V) (xs : List V) (v : Value) (us : List Value) (Q : VK), Inv X pins σ H s → RelV x v → Vals xs us → r x xs H Q →
    wpAny (model X.prog X.w) X.A (call (.builtin id) (v :: us)) (EP X pins σ Q) X.xe s
section
variable {X : Cx} {a b : Expr} {ta tb : TE} {pos : Pos}
theorem IxR.or {r r' : R2} (h : IxR X r) (h' : IxR X r') : IxR X (fun x y H Q => r x y H Q ∨ r' x y H Q) := by
  intro value slice pins s σ H x y v u Q I rx ry q hs
  rcases q with q | q
  · exact h value slice pins s σ H x y v u Q I rx ry q hs
  · exact h' value slice pins s σ H x y v u Q I rx ry q hs
theorem MtR.or {id : String} {r r' : V → List V → Hp → VK → Prop} (h : MtR X id r) (h' : MtR X id r') : MtR X id (fun x xs H Q => r x xs H Q ∨ r' x xs H Q) := by
  intro pins s σ H x xs v us Q I rx rs q
  rcases q with q | q
  · exact h pins s σ H x xs v us Q I rx rs q
  · exact h' pins s σ H x xs v us Q I rx rs q
/-- a[b] -/
theorem pe_ix {r : R2} (hr : IxR X r) (ha : PE X a ta) (hb : PE X b tb) (hs : PlainIx b) : PE X (.Subscript a b pos) (tOp r ta tb) := by
  intro pins s σ H Q I h
  exact Subscript_ (binT ha hb I h fun v u s2 x y H2 I2 rx ry q => hr a b pins s2 σ H2 x y v u Q I2 rx ry q (hs _ _))

def rIxL (K : PySem.W.Frag) : R2 := fun x y H Q => ∃ p xs i v, x = .ref p ∧ y = .int i ∧ SqL K H p xs ∧ atI xs i = some v ∧ Q v H
def rIxT (K : PySem.W.Frag) : R2 := fun x y H Q => ∃ p xs i v, x = .ref p ∧ y = .int i ∧ SqT K H p xs ∧ atI xs i = some v ∧ Q v H
def rIxS : R2 := fun x y H Q => ∃ z i c, x = .str z ∧ y = .int i ∧ z.length ≤ sizeLine ∧ atI z.cps.toList i = some c ∧ Q (.str ⟨#[c]⟩) H
theorem ix_list : IxR X (rIxL X.K) := by
  intro value slice pins s σ H x y v u Q I rx ry h hs
  obtain ⟨p, xs, i, z, rfl, rfl, hq, he, q⟩ := h
  cases rx
  obtain ⟨t, rfl⟩ := ry
  obtain ⟨its, r, pl, hz⟩ := I.list hq
  obtain ⟨j, h1, h2, h3, h4, h5⟩ := atI_get he
  obtain ⟨w, ew, rw'⟩ := r.get h2
  have hl := r.length
  have hn := line63
  have fin : EP X pins σ Q w s := ⟨z, H, I, rw', q⟩
  by_cases h0 : 0 ≤ i
  · have hj : i.toNat = j := by
      rw [seqIndex_of h0 h5] at h1
      exact Option.some.inj h1
    exact item_listR pl.isList h0 (by omega) (by rw [hj]; simpa using ew) fin hs
  · have hj : (i + (its.toArray.size : Int)).toNat = j := by
      rw [seqIndex_neg (by omega) h4] at h1
      rw [List.size_toArray, ← hl]
      exact Option.some.inj h1
    exact subscriptTail_builtinR (x := w) pl.isList.typeIs slot_list_getitem.lookup
      (wpAny_getItem_list_neg (Q := fun r s' => r = w ∧ EP X pins σ Q r s') pl.isList (by omega) (by rw [List.size_toArray] <;> omega) (by omega) (by rw [hj]; simpa using ew) ⟨rfl, fin⟩) hs
theorem ix_tup : IxR X (rIxT X.K) := by
  intro value slice pins s σ H x y v u Q I rx ry h hs
  obtain ⟨p, xs, i, z, rfl, rfl, hq, he, q⟩ := h
  cases rx
  obtain ⟨t, rfl⟩ := ry
  obtain ⟨its, r, pl, hz⟩ := I.tuple hq
  obtain ⟨j, h1, h2, h3, h4, h5⟩ := atI_get he
  obtain ⟨w, ew, rw'⟩ := r.get h2
  have hl := r.length
  have hn := line63
  have fin : EP X pins σ Q w s := ⟨z, H, I, rw', q⟩
  exact subscriptTail_builtinR (x := w) pl.typeIs slot_tuple_getitem.lookup
    (getItem_tuple (j := j) (Q := fun r s' => r = w ∧ EP X pins σ Q r s') pl (by omega) (by omega) (by rw [List.size_toArray, ← hl]; exact h1) (by simpa using ew) ⟨rfl, fin⟩) hs
theorem ix_str : IxR X rIxS := by
  intro value slice pins s σ H x y v u Q I rx ry h hs
  obtain ⟨z, i, c, rfl, rfl, hz, he, q⟩ := h
  obtain ⟨t, rfl⟩ := rx
  obtain ⟨t', rfl⟩ := ry
  obtain ⟨j, h1, h2, h3, h4, h5⟩ := atI_get he
  have hl : z.cps.toList.length = z.length := by simp [Str.length]
  rw [hl] at h1 h4 h5
  have hn := line63
  exact tail_any (typeIs_str s z t) slot_str_getitem.lookup (getItem_str (c := c) (by
    have e1 : decide (i < -(2 ^ 63 : Int)) = false := decide_eq_false (by omega)
    have e2 : decide (i ≥ 2 ^ 63) = false := decide_eq_false (by omega)
    rw [e1, e2, Bool.or_false]) (by rw [h1]; simpa using h2) ⟨.str ⟨#[c]⟩, H, I.tok _, ⟨_, rfl⟩, q⟩) hs
/-- list, tuple or str -/
def rIx (K : PySem.W.Frag) : R2 := fun x y H Q => rIxL K x y H Q ∨ rIxT K x y H Q ∨ rIxS x y H Q
theorem ix_seq : IxR X (rIx X.K) := ix_list.or (ix_tup.or ix_str)

/-! ### xs[i] = v, any sign -/
/-- the list's object behind a store -/
theorem mapSeq_set (its : List Value) (n j : Nat) (u : Value) : Obj.mapSeq (·.setIfInBounds j u) { cls := .type "list", data := .seq its.toArray n } = { cls := .type "list", data := .seq (its.set j u).toArray n } := by
  simp [Obj.mapSeq]
theorem Inv.lst {pins : List (Addr × Obj)} {σ : St} {H : Hp} {s : Shared} {p : Addr} {xs : List V} (I : Inv X pins σ H s) (h : H p = some (.lst xs)) :
    ∃ (its : List Value) (n : Nat), Vals xs its ∧ s.heap.get? p = some { cls := .type "list", data := .seq its.toArray n } ∧ xs.length ≤ sizeLine := by
  obtain ⟨z, its, n, r, e⟩ := I.hok p _ h
  exact ⟨its, n, r, e, z⟩
/-- the list at p is written by an update of its object -/
theorem Inv.lstUpd {pins : List (Addr × Obj)} {σ : St} {H : Hp} {s : Shared} {p : Addr} {xs ys : List V} {its its' : List Value} {n n' : Nat} {f : Obj → Obj} (I : Inv X pins σ H s) (h : H p = some (.lst xs))
    (ho : s.heap.get? p = some { cls := .type "list", data := .seq its.toArray n }) (hf : f { cls := .type "list", data := .seq its.toArray n } = { cls := .type "list", data := .seq its'.toArray n' }) (r : Vals ys its') (hz : ys.length ≤ sizeLine) (t : Nat) :
    Inv X pins σ (upd H p (.lst ys)) { s with heap := s.heap.update p f, toks := t } := by
  have e : (s.heap.update p f).get? p = some { cls := .type "list", data := .seq its'.toArray n' } := by
    rw [Heap.get?_update_self f ho (by rw [hf] <;> rfl), hf]
  refine I.write (x := p) (e := p) (by rw [h]; trivial) (.inl rfl) (fun b u hb q => (Heap.get?_update_other _ _ (Ne.symm hb)).trans q) ⟨_, e⟩ ?_
  exact ⟨hz, its', n', r, e⟩
def rSetL : V → V → V → Hp → (Hp → Prop) → Prop := fun o i v H Q => ∃ p xs k j, o = .ref p ∧ i = .int k ∧ H p = some (.lst xs) ∧ ixN xs.length k = some j ∧ Q (upd H p (.lst (xs.set j v)))
theorem set_list : PSet X rSetL := by
  intro pins s σ H o i v ov iv u Q I ro ri rv h
  obtain ⟨p, xs, k, j, rfl, rfl, hp, hj, q⟩ := h
  cases ro
  obtain ⟨t, rfl⟩ := ri
  obtain ⟨its, n, r, ho, hz⟩ := I.lst hp
  obtain ⟨h1, h2, h3, h4⟩ := ixN_seq hj
  have hl := r.length
  have hn := line63
  have I' : Inv X pins σ (upd H p (.lst (xs.set j v))) { s with heap := s.heap.update p (Obj.mapSeq (·.setIfInBounds j u)) } :=
    I.lstUpd hp ho (mapSeq_set its n j u) (r.set rv j) (by rw [List.length_set]; exact hz) s.toks
  by_cases h0 : 0 ≤ k
  · have hk : k.toNat = j := by
      rw [seqIndex_of h0 h4] at h1
      exact Option.some.inj h1
    exact PySem.W.ki_setAt ho h0 (by omega) (by rw [List.size_toArray, ← hl]; exact h4) (by rw [hk]; exact ⟨_, I', q⟩)
  · have hk : (k + (its.toArray.size : Int)).toNat = j := by
      rw [seqIndex_neg (by omega) h3] at h1
      rw [List.size_toArray, ← hl]
      exact Option.some.inj h1
    exact PySem.W.ki_setBack ho (by omega) (by rw [List.size_toArray, ← hl]; exact h3) (by omega) (by rw [hk]; exact ⟨_, I', q⟩)

/-! ### slices -/
theorem slice_bounds (lo hi : Option Int) (n : Nat) : (sliceBounds lo hi none n).1 = ((HT.sIx n 0 lo : Nat) : Int) ∧ (sliceBounds lo hi none n).2.1 = ((HT.sIx n n hi : Nat) : Int) ∧ (sliceBounds lo hi none n).2.2 = 1 := by
  refine ⟨?_, ?_, rfl⟩
  · cases lo with
    | none => simp [sliceBounds, HT.sIx]
    | some i =>
      simp only [sliceBounds, HT.sIx, Option.getD_none, show (1 : Int) > 0 by decide, if_true]
      by_cases h : i < 0
      · simp only [h, if_true] <;> omega
      · simp only [h, if_false] <;> omega
  · cases hi with
    | none => simp [sliceBounds, HT.sIx]
    | some i =>
      simp only [sliceBounds, HT.sIx, Option.getD_none, show (1 : Int) > 0 by decide, if_true]
      by_cases h : i < 0
      · simp only [h, if_true] <;> omega
      · simp only [h, if_false] <;> omega
theorem slicePick_cut (its : List Value) (lo hi : Option Int) : slicePick its.toArray lo hi none = ((its.drop (HT.sIx its.length 0 lo)).take (HT.sIx its.length its.length hi - HT.sIx its.length 0 lo)).toArray := by
  obtain ⟨h1, h2, h3⟩ := slice_bounds lo hi its.toArray.size
  unfold slicePick
  rw [h1, h2, h3]
  simp only [sliceRange_one, pick_run, List.size_toArray] <;> rfl
/-- xs[lo:hi] of a list: a new list -/
def rSlL (K : PySem.W.Frag) : V → Option Int → Option Int → Hp → VK → Prop := fun x lo hi H Q => ∃ a xs, x = .ref a ∧ SqL K H a xs ∧ ∀ p, H p = none → Q (.ref p) (upd H p (.lst (cutV xs lo hi)))
theorem sl_list : SlR X (rSlL X.K) := by
  intro pins s σ H x v vl vu lo hi sl Q I rx hs pl pu h
  obtain ⟨a, xs, rfl, hx, q⟩ := h
  cases rx
  obtain ⟨its, r, ht, hz⟩ := I.list hx
  have hlen := r.length
  refine ⟨"list", _, slot_list_getitem.lookup, ht.isList.typeIs, ?_⟩
  refine wpAny_getItem_list_slice ht.isList hs pl pu .none (by simp) ?_ (by rw [List.size_toArray] <;> omega)
  rw [slicePick_cut, ← hlen]
  refine ⟨.ref s.heap.objs.size, _, I.laid (t' := s.toks) (o := .lst (cutV xs lo hi)) (fun b ob q => Heap.get?_push_of_some _ q) (Nat.le_refl _) ?_, rfl, q _ (I.hok.fresh (Nat.le_refl _))⟩
  exact ⟨Nat.le_trans (cutV_length xs lo hi) hz, _, 0, (r.drop (HT.sIx xs.length 0 lo)).take (HT.sIx xs.length xs.length hi - HT.sIx xs.length 0 lo), Heap.get?_push_size _ rfl⟩

/-! ### in, not in: flat items -/
def flatV : V → Bool
  | .non => true
  | .bl _ => true
  | .int _ => true
  | .str _ => true
  | _ => false
/-- == of flat values -/
def eqV : V → V → Bool
  | .non, .non => true
  | .bl a, .bl b => a == b
  | .bl a, .int b => (if a then 1 else 0) == b
  | .int a, .bl b => a == (if b then 1 else 0)
  | .int a, .int b => a == b
  | .str a, .str b => a == b
  | _, _ => false
theorem eqAt_V {A : Around} {s : Shared} {y x : V} {u v : Value} (ry : RelV y u) (rx : RelV x v) (fy : flatV y = true) (fx : flatV x = true) : SeqAt.EqAt A s u v (eqV y x) := by
  cases y with
  | non =>
    cases ry
    cases x with
    | non => cases rx; exact SeqAt.EqAt.same _
    | bl b => cases rx; exact SeqAt.EqAt.none_bool b
    | int b => obtain ⟨t, rfl⟩ := rx; exact SeqAt.EqAt.none_int b t
    | str b => obtain ⟨t, rfl⟩ := rx; exact SeqAt.EqAt.none_str b t
    | _ => exact absurd (show false = true from fx) Bool.false_ne_true
  | bl a =>
    cases ry
    cases x with
    | non => cases rx; exact SeqAt.EqAt.bool_none a
    | bl b => cases rx; exact SeqAt.EqAt.bool_bool a b
    | int b => obtain ⟨t, rfl⟩ := rx; exact SeqAt.EqAt.bool_int a b t
    | str b => obtain ⟨t, rfl⟩ := rx; exact SeqAt.EqAt.bool_str a b t
    | _ => exact absurd (show false = true from fx) Bool.false_ne_true
  | int a =>
    obtain ⟨t', rfl⟩ := ry
    cases x with
    | non => cases rx; exact SeqAt.EqAt.int_none a t'
    | bl b => cases rx; exact SeqAt.EqAt.int_bool a t' b
    | int b => obtain ⟨t, rfl⟩ := rx; exact SeqAt.EqAt.int_int a t' b t
    | str b => obtain ⟨t, rfl⟩ := rx; exact SeqAt.EqAt.int_str a t' b t
    | _ => exact absurd (show false = true from fx) Bool.false_ne_true
  | str a =>
    obtain ⟨t', rfl⟩ := ry
    cases x with
    | non => cases rx; exact SeqAt.EqAt.str_none a t'
    | bl b => cases rx; exact SeqAt.EqAt.str_bool a t' b
    | int b => obtain ⟨t, rfl⟩ := rx; exact SeqAt.EqAt.str_int a t' b t
    | str b => obtain ⟨t, rfl⟩ := rx; exact SeqAt.EqAt.str_str a t' b t
    | _ => exact absurd (show false = true from fx) Bool.false_ne_true
  | _ => exact absurd (show false = true from fy) Bool.false_ne_true
/-- the items' answers, read off the values (a value's own answer does not lean on its token) -/
def eqU (x : V) (u : Value) : Bool := match u with
  | .none => eqV .non x
  | .bool b => eqV (.bl b) x
  | .int i _ => eqV (.int i) x
  | .str z _ => eqV (.str z) x
  | _ => false
theorem eqU_of {x y : V} {u : Value} (r : RelV y u) (f : flatV y = true) : eqU x u = eqV y x := by
  cases y with
  | non => cases r; rfl
  | bl b => cases r; rfl
  | int i => obtain ⟨t, rfl⟩ := r; rfl
  | str z => obtain ⟨t, rfl⟩ := r; rfl
  | _ => exact absurd (show false = true from f) Bool.false_ne_true
theorem any_eqU {x : V} : ∀ {xs : List V} {us : List Value}, Vals xs us → xs.all flatV = true → us.any (eqU x) = xs.any fun y => eqV y x
  | _, _, .nil, _ => rfl
  | y :: xs, u :: us, .cons r t, f => by
    rw [List.all_cons, Bool.and_eq_true] at f
    rw [List.any_cons, List.any_cons, eqU_of r f.1, any_eqU t f.2]
theorem mem_eqAt {A : Around} {s : Shared} {x : V} {v : Value} (rx : RelV x v) (fx : flatV x = true) : ∀ {xs : List V} {us : List Value}, Vals xs us → xs.all flatV = true → ∀ u ∈ us, SeqAt.EqAt A s u v (eqU x u)
  | _, _, .nil, _ => fun u hu => by cases hu
  | y :: xs, u :: us, .cons r t, f => fun u' hu => by
    rw [List.all_cons, Bool.and_eq_true] at f
    rcases List.mem_cons.mp hu with rfl | hu
    · rw [eqU_of r f.1]; exact eqAt_V r rx f.1 fx
    · exact mem_eqAt rx fx t f.2 u' hu
def inV (x : V) (xs : List V) : Bool := xs.any fun y => eqV y x
/-- x in a list or tuple of flat items -/
def rIn (K : PySem.W.Frag) (neg : Bool) : R2 := fun x y H Q => ∃ p xs, y = .ref p ∧ (SqL K H p xs ∨ SqT K H p xs) ∧ flatV x = true ∧ xs.all flatV = true ∧ Q (.bl (if neg then !inV x xs else inV x xs)) H
theorem op_in_seq : OpR X (compareOp .In) (rIn X.K false) := by
  intro pins s σ H x y v u Q I rx ry h
  obtain ⟨p, xs, rfl, hq, fx, fs, q⟩ := h
  cases ry
  rcases hq with hq | hq
  · obtain ⟨its, r, pl, hz⟩ := I.list hq
    refine SeqAt.in_listAt (eqU x) pl.isList (fun w hw => mem_eqAt rx fx r fs w (by simpa using hw)) ⟨.bl _, H, I, rfl, ?_⟩
    rw [show its.toArray.any (eqU x) = its.any (eqU x) by simp, any_eqU r fs]
    exact q
  · obtain ⟨its, r, pl, hz⟩ := I.tuple hq
    refine SeqAt.in_tupleAt (eqU x) pl (fun w hw => mem_eqAt rx fx r fs w (by simpa using hw)) ⟨.bl _, H, I, rfl, ?_⟩
    rw [show its.toArray.any (eqU x) = its.any (eqU x) by simp, any_eqU r fs]
    exact q
theorem op_notIn_seq : OpR X (compareOp .NotIn) (rIn X.K true) := by
  intro pins s σ H x y v u Q I rx ry h
  obtain ⟨p, xs, rfl, hq, fx, fs, q⟩ := h
  cases ry
  rcases hq with hq | hq
  · obtain ⟨its, r, pl, hz⟩ := I.list hq
    refine SeqAt.notIn_listAt (eqU x) pl.isList (fun w hw => mem_eqAt rx fx r fs w (by simpa using hw)) ⟨.bl _, H, I, rfl, ?_⟩
    rw [show its.toArray.any (eqU x) = its.any (eqU x) by simp, any_eqU r fs]
    exact q
  · obtain ⟨its, r, pl, hz⟩ := I.tuple hq
    refine SeqAt.notIn_tupleAt (eqU x) pl (fun w hw => mem_eqAt rx fx r fs w (by simpa using hw)) ⟨.bl _, H, I, rfl, ?_⟩
    rw [show its.toArray.any (eqU x) = its.any (eqU x) by simp, any_eqU r fs]
    exact q
theorem op_notIn_str : OpR X (compareOp .NotIn) (fun x y H Q => ∃ i j, x = .str i ∧ y = .str j ∧ Q (.bl (!(!(Builtin.Str.occurrences j i 0 j.length 1).isEmpty))) H) := by
  intro pins s σ H x y v u Q I rx ry h
  obtain ⟨i, j, rfl, rfl, q⟩ := h
  obtain ⟨t, rfl⟩ := rx
  obtain ⟨t', rfl⟩ := ry
  exact notIn_str ⟨.bl _, H, I, rfl, q⟩

/-! ### len, list(x), tuple(x) of any list or tuple that is read -/
theorem call_len_seq : CallR X (.builtin "len") (fun xs H Q => ∃ p ys, xs = [.ref p] ∧ (SqL X.K H p ys ∨ SqT X.K H p ys) ∧ Q (.int ys.length) H) := by
  intro pins s σ H xs us Q I r h
  obtain ⟨p, ys, rfl, hq, q⟩ := h
  obtain ⟨u, rfl, rx⟩ := vals1 r
  cases rx
  have hn := line63
  rcases hq with hq | hq
  · obtain ⟨its, r', pl, hz⟩ := I.list hq
    have hlen := r'.length
    exact Calls.call_len_list pl.isList (by simp only [List.size_toArray] <;> omega) ⟨.int ys.length, H, I.tok _, ⟨s.toks + 1, by rw [List.size_toArray, hlen]⟩, q⟩
  · obtain ⟨its, r', pl, hz⟩ := I.tuple hq
    have hlen := r'.length
    exact len_tuple pl (by simp only [List.size_toArray] <;> omega) ⟨.int ys.length, H, I.tok _, ⟨s.toks + 1, by rw [List.size_toArray, hlen]⟩, q⟩
theorem call_len_str : CallR X (.builtin "len") (fun xs H Q => ∃ z, xs = [.str z] ∧ z.length ≤ sizeLine ∧ Q (.int z.length) H) := by
  intro pins s σ H xs us Q I r h
  obtain ⟨z, rfl, hz, q⟩ := h
  obtain ⟨u, rfl, t, rfl⟩ := vals1 r
  have hn := line63
  exact len_str (by omega) ⟨.int z.length, H, I.tok _, ⟨_, rfl⟩, q⟩
theorem CallR.or {f : Value} {r r' : List V → Hp → VK → Prop} (h : CallR X f r) (h' : CallR X f r') : CallR X f (fun xs H Q => r xs H Q ∨ r' xs H Q) := by
  intro pins s σ H xs us Q I rs q
  rcases q with q | q
  · exact h pins s σ H xs us Q I rs q
  · exact h' pins s σ H xs us Q I rs q
theorem call_list_of : CallR X (.type "list") (fun xs H Q => ∃ p ys, xs = [.ref p] ∧ (SqL X.K H p ys ∨ SqT X.K H p ys) ∧ ∀ l, H l = none → Q (.ref l) (upd H l (.lst ys))) := by
  intro pins s σ H xs us Q I r h
  obtain ⟨p, ys, rfl, hq, q⟩ := h
  obtain ⟨u, rfl, rx⟩ := vals1 r
  cases rx
  have fin : ∀ (its : List Value), Vals ys its → ys.length ≤ sizeLine → ∀ (h' : Heap) (c' : Nat), (∀ b o', s.heap.get? b = some o' → h'.get? b = some o') →
      h'.get? s.heap.objs.size = some { cls := .type "list", dict := none, data := .seq its.toArray c', slots := #[] } → EP X pins σ Q (.ref s.heap.objs.size) { s with heap := h' } := fun its r' hz h' c' kp e =>
    ⟨.ref s.heap.objs.size, _, I.laid (t' := s.toks) kp (Nat.le_refl _) (show ObjOk X.prog X.w _ h' _ (.lst ys) from ⟨hz, its, c', r', e⟩), rfl, q _ (I.hok.fresh (Nat.le_refl _))⟩
  rcases hq with hq | hq
  · obtain ⟨its, r', pl, hz⟩ := I.list hq
    have hlen := r'.length
    obtain ⟨o, ho, hc, n, hd⟩ := pl.isList
    exact call_list_seq p (.inl rfl) ho hc hd (fun h' c' kp e => fin its r' hz h' c' kp e) (by simp only [List.size_toArray] <;> omega)
  · obtain ⟨its, r', pl, hz⟩ := I.tuple hq
    have hlen := r'.length
    obtain ⟨o, ho, hc, n, hd⟩ := pl
    exact call_list_seq p (.inr rfl) ho hc hd (fun h' c' kp e => fin its r' hz h' c' kp e) (by simp only [List.size_toArray] <;> omega)
theorem call_tuple_of : CallR X (.type "tuple") (fun xs H Q => ∃ p ys, xs = [.ref p] ∧ ((SqL X.K H p ys ∧ ∀ l, H l = none → Q (.ref l) (upd H l (.tup ys))) ∨ (SqT X.K H p ys ∧ Q (.ref p) H))) := by
  intro pins s σ H xs us Q I r h
  obtain ⟨p, ys, rfl, h⟩ := h
  obtain ⟨u, rfl, rx⟩ := vals1 r
  cases rx
  rcases h with ⟨hq, q⟩ | ⟨hq, q⟩
  · obtain ⟨its, r', pl, hz⟩ := I.list hq
    have hlen := r'.length
    refine call_tuple_list pl.isList (fun h' kp => ?_) (by simp only [List.size_toArray] <;> omega)
    have I1 : Inv X pins σ H { s with heap := h' } := I.kept (t' := s.toks) kp
    have I2 : Inv X pins σ (upd H h'.objs.size (.tup ys)) { s with heap := h'.push { cls := .type "tuple", data := .seq its.toArray } } :=
      I1.laid (t' := s.toks) (fun b o e => Heap.get?_push_of_some _ e) (Nat.le_refl _) (show ObjOk X.prog X.w _ _ _ (.tup ys) from ⟨hz, its, r', IsTup.new _ _⟩)
    exact ⟨.ref h'.objs.size, _, I2, rfl, q _ (I1.hok.fresh (Nat.le_refl _))⟩
  · obtain ⟨its, r', pl, hz⟩ := I.tuple hq
    exact call_tuple_same pl ⟨.ref p, H, I, rfl, q⟩

/-! ### the call of a builtin's method: o.m(..) -/
/-- the value is of that builtin type -/
def tyV (K : PySem.W.Frag) (T : String) (x : V) (H : Hp) : Prop := match x with
  | .str _ => T = "str"
  | .int _ => T = "int"
  | .ref p => (T = "list" ∧ ∃ xs, SqL K H p xs) ∨ (T = "tuple" ∧ ∃ o, K.lookup p = some o ∧ o.cls = .type "tuple" ∧ o.dict = none) ∨
      (T = "dict" ∧ ((∃ kvs, H p = some (.dK kvs)) ∨ ∃ kvs, H p = some (.dT kvs))) ∨ (T = "set" ∧ ∃ S n, H p = some (.set S n))
  | _ => False
theorem tyV_is {pins : List (Addr × Obj)} {σ : St} {H : Hp} {s : Shared} {T : String} {x : V} {v : Value} (I : Inv X pins σ H s) (r : RelV x v) (ty : tyV X.K T x H) :
    s.TypeIs v T ∧ ∀ a, v = .ref a → ∃ ob, s.heap.get? a = some ob ∧ ob.dict = none := by
  cases x with
  | str z =>
    obtain ⟨t, rfl⟩ := r
    cases (show T = "str" from ty)
    exact ⟨typeIs_str s z t, fun _ e => nomatch e⟩
  | int i =>
    obtain ⟨t, rfl⟩ := r
    cases (show T = "int" from ty)
    exact ⟨typeIs_int s i t, fun _ e => nomatch e⟩
  | ref p =>
    cases r
    rcases ty with ⟨rfl, xs, hq⟩ | ⟨rfl, o, hk, hc, hd⟩ | ⟨rfl, hk⟩ | ⟨rfl, S, n, hk⟩
    · obtain ⟨its, _, pl, _⟩ := I.list hq
      refine ⟨pl.isList.typeIs, fun a e => ?_⟩
      cases e
      obtain ⟨o, n, e, c, hd, _⟩ := pl
      exact ⟨o, e, hd⟩
    · refine ⟨⟨o, I.kIn p o hk, hc⟩, fun a e => ?_⟩
      cases e
      exact ⟨o, I.kIn _ o hk, hd⟩
    · have z : ∃ o, s.heap.get? p = some o ∧ o.ExactDict := by
        rcases hk with ⟨kvs, hk⟩ | ⟨kvs, hk⟩
        · obtain ⟨_, _, _, _, o, _, _, e, ex, _⟩ := I.hok p _ hk
          exact ⟨o, e, ex⟩
        · obtain ⟨_, _, _, _, o, _, _, e, ex, _⟩ := I.hok p _ hk
          exact ⟨o, e, ex⟩
      obtain ⟨o, e, ex⟩ := z
      refine ⟨⟨o, e, ex.1⟩, fun a e2 => ?_⟩
      cases e2
      exact ⟨o, e, ex.2.1⟩
    · obtain ⟨o, _, _, _, e, ex, _⟩ := I.hok p _ hk
      refine ⟨⟨o, e, ex.1⟩, fun a e2 => ?_⟩
      cases e2
      exact ⟨o, e, ex.2.1⟩
  | _ => exact False.elim ty
def tBM0 (K : PySem.W.Frag) (T : String) (r : V → List V → Hp → VK → Prop) (to : TE) : TE := fun σ H Q => to σ H fun x H1 => tyV K T x H1 ∧ r x [] H1 Q
def tBM (K : PySem.W.Frag) (T : String) (r : V → List V → Hp → VK → Prop) (to : TE) (t : TA) : TE := fun σ H Q => to σ H fun x H1 => tyV K T x H1 ∧ t σ H1 fun xs H2 => r x xs H2 Q
variable {o e : Expr} {es : List Expr} {to : TE} {t : TA} {name : Str} {apos cpos : Pos} {T id : String} {r : V → List V → Hp → VK → Prop}
theorem pe_bm0 (pa : PlainAttrs T) (slot : Slot T name id) (hty : typeOf (.builtin id) = pure (.type "method_descriptor")) (hm : MtR X id r) (ho : PE X o to)
    (hbase : attributeBase o name X.env (eval o X.env) = eval o X.env := by rfl) (hline : (apos.endLine == cpos.line) = true := by rfl) : PE X (.Call (.Attribute o name apos) [] [] cpos) (tBM0 X.K T r to) := by
  intro pins s σ H Q I h
  refine wpAny_Call_method0_late hbase hline (thn (ho pins s σ H _ I h) fun v s1 ⟨x, H1, I1, r1, ty, q1⟩ => ?_)
  obtain ⟨h1, h2⟩ := tyV_is I1 r1 ty
  exact ⟨T, id, pa, slot, hty, h1, h2, Calls.callWith_builtin rfl (PySem.evalArgs_none (hm pins s1 σ H1 x [] v [] Q I1 r1 .nil q1))⟩
theorem pe_bm (pa : PlainAttrs T) (slot : Slot T name id) (hty : typeOf (.builtin id) = pure (.type "method_descriptor")) (hm : MtR X id r) (ho : PE X o to) (ha : PA X (e :: es) t)
    (hbase : attributeBase o name X.env (eval o X.env) = eval o X.env := by rfl)
    (hfew : ((backTo cpos (starEach (e :: es) X.env)).all (fun x => !x.1) && (backToKw cpos (keywordEach [] X.env)).all (fun x => x.1.isSome)
      && decide ((e :: es).length + ([] : List Keyword).length + (if ([] : List Keyword).isEmpty then 0 else 1) < 30)) = true := by rfl)
    (hline : (apos.endLine == cpos.line) = true := by rfl) (hs : starEach (e :: es) X.env = (false, eval e X.env) :: starEach es X.env := by rfl) (hplain : (backTo cpos (starEach es X.env)).any (·.1) = false := by rfl) :
    PE X (.Call (.Attribute o name apos) (e :: es) [] cpos) (tBM X.K T r to t) := by
  intro pins s σ H Q I h
  refine wpAny_Call_method_late hbase hfew hline rfl (thn (ho pins s σ H _ I h) fun v s1 ⟨x, H1, I1, r1, ty, q1⟩ => ?_)
  obtain ⟨h1, h2⟩ := tyV_is I1 r1 ty
  refine ⟨T, id, pa, slot, hty, h1, h2, ?_⟩
  have hA := ha cpos pins s1 σ H1 _ I1 q1
  rw [hs] at hA ⊢
  refine Calls.callWith_builtin (by show (false || (backTo cpos (starEach es X.env)).any (·.1)) = false; rw [hplain] <;> rfl) (Calls.evalArgs_plain ?_)
  exact thn hA fun us s2 ⟨vs, H2, I2, r2, q2⟩ => hm pins s2 σ H2 x vs v us Q I2 r1 r2 q2
/- xs.append(e), list.index on a module's tuple .. are MtR facts of 06m -/
end
end L2

namespace L2
open PySem PySem.Spec PyProof.Rows

def MtM (X : Cx) (id : String) (r : V → List V → Hp → VK → Prop) : Prop :=
  ∀ (pins : List (Addr × Obj)) (s : Shared) (σ : St) (H : Hp) (x : V) (xs : List V) (v : Value) (us : List Value) (Q : VK), Inv X pins σ H s → RelV x v → Vals xs us → r x xs H Q →
    wpAny (model X.prog X.w) X.A (call (.builtin id) (v :: us)) (EP X pins σ Q) X.xe s

/-! ### lists of values -/
theorem Vals.one : ∀ {x : V} {us : List Value}, Vals [x] us → ∃ u, us = [u] ∧ RelV x u
  | _, _, .cons r .nil => ⟨_, rfl, r⟩
theorem Vals.two : ∀ {x y : V} {us : List Value}, Vals [x, y] us → ∃ u v, us = [u, v] ∧ RelV x u ∧ RelV y v
  | _, _, _, .cons r (.cons q .nil) => ⟨_, _, rfl, r, q⟩
theorem Vals.zero : ∀ {us : List Value}, Vals [] us → us = []
  | _, .nil => rfl
theorem Vals.dropLast {xs : List V} {us : List Value} (h : Vals xs us) : Vals xs.dropLast us.dropLast := by
  induction h with
  | nil => exact .nil
  | cons r t ih =>
    cases t with
    | nil => exact .nil
    | cons q t' => exact .cons r ih
theorem Vals.eraseIdx : ∀ {xs : List V} {us : List Value} (i : Nat), Vals xs us → Vals (xs.eraseIdx i) (us.eraseIdx i)
  | _, _, _, .nil => .nil
  | _, _, 0, .cons _ t => t
  | _, _, i + 1, .cons r t => .cons r (Vals.eraseIdx i t)
theorem Vals.reverse {xs : List V} {us : List Value} (h : Vals xs us) : Vals xs.reverse us.reverse := by
  induction h with
  | nil => exact .nil
  | cons r t ih => rw [List.reverse_cons, List.reverse_cons]; exact Vals.append ih (.cons r .nil)
theorem Vals.rep {xs : List V} {us : List Value} (h : Vals xs us) : ∀ k : Nat, Vals (List.replicate k xs).flatten (List.replicate k us).flatten
  | 0 => .nil
  | k + 1 => by
    rw [List.replicate_succ, List.replicate_succ, List.flatten_cons, List.flatten_cons]
    exact Vals.append h (Vals.rep h k)
theorem erase_last {α : Type} (l : List α) : l.eraseIdx (l.length - 1) = l.dropLast := by
  induction l with
  | nil => rfl
  | cons a r ih =>
    cases r with
    | nil => rfl
    | cons b r =>
      have e : (a :: b :: r).length - 1 = ((b :: r).length - 1) + 1 := by
        have h1 : (a :: b :: r).length = r.length + 2 := rfl
        have h2 : (b :: r).length = r.length + 1 := rfl
        omega
      rw [e, List.eraseIdx_cons_succ, ih]
      all_goals rfl
theorem len_erase {α : Type} : ∀ (l : List α) (i : Nat), (l.eraseIdx i).length ≤ l.length
  | [], _ => Nat.le_refl _
  | _ :: _, 0 => Nat.le_succ _
  | _ :: r, i + 1 => Nat.succ_le_succ (len_erase r i)
theorem foldl_rep (its : List Value) : ∀ (k : Nat) (acc : List Value),
    List.foldl (fun x1 x2 => x1 ++ x2) acc.toArray (List.replicate k its.toArray) = (acc ++ (List.replicate k its).flatten).toArray
  | 0, acc => by simp
  | k + 1, acc => by
    have e : acc.toArray ++ its.toArray = (acc ++ its).toArray := by simp
    have e2 : (acc ++ its) ++ (List.replicate k its).flatten = acc ++ (List.replicate (k + 1) its).flatten := by
      rw [List.replicate_succ, List.flatten_cons, List.append_assoc]
    rw [← e2, ← foldl_rep its k (acc ++ its), ← e, List.replicate_succ, List.foldl_cons]

section
variable {X : Cx} {pins : List (Addr × Obj)} {σ : St} {H : Hp} {s : Shared} {l b : Addr} {xs ys zs : List V}

/-! ### the two steps: a tracked list is rewritten, a new list is laid -/
theorem Inv.lset {its its' : List Value} {n : Nat} {f : Array Value → Array Value} {t' : Nat} (I : Inv X pins σ H s) (hH : H l = some (.lst xs))
    (e : s.heap.get? l = some { cls := .type "list", data := .seq its.toArray n }) (hf : f its.toArray = its'.toArray) (hv : Vals ys its') (hz : ys.length ≤ sizeLine) :
    Inv X pins σ (upd H l (.lst ys)) { s with heap := s.heap.update l (Obj.mapSeq f), toks := t' } := by
  have q := PySem.IsL.update e f
  rw [hf] at q
  refine I.write (x := l) (e := l) (by rw [hH]; exact trivial) (.inl rfl) (fun b' u hb hu => (Heap.get?_update_other s.heap (Obj.mapSeq f) (Ne.symm hb)).trans hu) ⟨_, q⟩ ?_
  exact ⟨hz, its', _, hv, q⟩
theorem Inv.lnew {its : List Value} {t' : Nat} (I : Inv X pins σ H s) (hv : Vals ys its) (hz : ys.length ≤ sizeLine) :
    Inv X pins σ (upd H s.heap.objs.size (.lst ys)) { s with heap := s.heap.push { cls := .type "list", data := .seq its.toArray }, toks := t' } :=
  I.laid (fun _ _ q => Heap.get?_push_of_some _ q) (Nat.le_refl _) ⟨hz, its, 0, hv, Heap.get?_push_size _ rfl⟩
theorem Inv.fresh (I : Inv X pins σ H s) : H s.heap.objs.size = none := I.hok.fresh (Nat.le_refl _)
theorem Inv.lstM (I : Inv X pins σ H s) (hH : H l = some (.lst xs)) : xs.length ≤ sizeLine ∧ ∃ (its : List Value) (n : Nat), Vals xs its ∧ xs.length = its.length ∧ s.heap.get? l = some { cls := .type "list", data := .seq its.toArray n } := by
  obtain ⟨z, its, n, r, e⟩ := I.hok l _ hH
  exact ⟨z, its, n, r, r.length, e⟩

theorem notLongL {n : Nat} (h : n ≤ sizeLine) : Builtin.List.listTooLong n = false := by
  unfold Builtin.List.listTooLong
  exact decide_eq_false (by omega)
end

section
variable {X : Cx}

/-! ### methods -/
def rAppend : V → List V → Hp → VK → Prop := fun x vs H Q => ∃ l xs y, x = .ref l ∧ vs = [y] ∧ H l = some (.lst xs) ∧ xs.length < sizeLine ∧ Q .non (upd H l (.lst (xs ++ [y])))
theorem mt_append : MtM X "list.append" rAppend := by
  intro pins s σ H x vs v us Q I rx rv h
  obtain ⟨l, xs, y, rfl, rfl, hH, hz, q⟩ := h
  cases rx
  obtain ⟨u, rfl, ru⟩ := rv.one
  obtain ⟨z, its, n, r, hl, e⟩ := I.lstM hH
  refine call_meets F.slot_list_append ⟨_, e, rfl⟩ F.entry_list_append (F.args_list_append_2 _ _) (PySem.list_append l its.toArray n u (by rw [List.size_toArray]; omega)) ⟨e, ?_⟩
  refine ⟨.non, _, I.lset (its' := its ++ [u]) hH e (by simp) (r.append (.cons ru .nil)) ?_, rfl, q⟩
  rw [List.length_append, List.length_singleton]
  omega

def rExtend : V → List V → Hp → VK → Prop := fun x vs H Q => ∃ l b xs zs, x = .ref l ∧ vs = [.ref b] ∧ H l = some (.lst xs) ∧ H b = some (.lst zs) ∧ xs.length + zs.length ≤ sizeLine ∧ Q .non (upd H l (.lst (xs ++ zs)))
theorem mt_extend : MtM X "list.extend" rExtend := by
  intro pins s σ H x vs v us Q I rx rv h
  obtain ⟨l, b, xs, zs, rfl, rfl, hH, hB, hz, q⟩ := h
  cases rx
  obtain ⟨u, rfl, ru⟩ := rv.one
  cases ru
  obtain ⟨z, its, n, r, hl, e⟩ := I.lstM hH
  obtain ⟨z2, its2, n2, r2, hl2, e2⟩ := I.lstM hB
  have hsz : its.toArray.size + its2.toArray.size ≤ sizeLine := by rw [List.size_toArray, List.size_toArray]; omega
  have hlong : ¬ (!its.toArray.isEmpty && Builtin.List.listTooLong (its.toArray.size + its2.toArray.size)) = true := by
    rw [notLongL hsz, Bool.and_false]
    exact Bool.false_ne_true
  refine call_meets F.slot_list_extend ⟨_, e, rfl⟩ F.entry_list_extend (F.args_list_extend_2 _ _)
    (AutoSeq1.list_extend_list_list_0 l its.toArray n b its2.toArray n2 hlong (by rw [List.size_toArray]; omega) (by omega)) ⟨e, e2, ?_⟩
  refine ⟨.non, _, I.lset (its' := its ++ its2) hH e (by simp) (r.append r2) ?_, rfl, q⟩
  rw [List.length_append]
  omega

def rPop : V → List V → Hp → VK → Prop := fun x vs H Q => ∃ l xs y, x = .ref l ∧ vs = [] ∧ H l = some (.lst xs) ∧ xs[xs.length - 1]? = some y ∧ Q y (upd H l (.lst xs.dropLast))
theorem mt_pop : MtM X "list.pop" rPop := by
  intro pins s σ H x vs v us Q I rx rv h
  obtain ⟨l, xs, y, rfl, rfl, hH, hy, q⟩ := h
  cases rx
  have hus := rv.zero
  subst hus
  obtain ⟨z, its, n, r, hl, e⟩ := I.lstM hH
  obtain ⟨u, hu, ru⟩ := r.get hy
  have hy' : its.toArray[its.toArray.size - 1]? = some u := by
    show its.toArray[its.length - 1]? = some u
    rw [← Array.getElem?_toList, ← hl]
    exact hu
  refine call_meets F.slot_list_pop ⟨_, e, rfl⟩ F.entry_list_pop (F.args_list_pop_1 _) (MeetsSeq.list_pop_last l its.toArray n u hy' (by rw [List.size_toArray]; omega)) ⟨e, ?_⟩
  refine ⟨y, _, I.lset (its' := its.dropLast) hH e ?_ r.dropLast ?_, ru, q⟩
  · show its.toArray.eraseIdxIfInBounds (its.toArray.size - 1) = its.dropLast.toArray
    rw [List.size_toArray, List.eraseIdxIfInBounds_toArray, erase_last]
  · rw [List.length_dropLast]
    omega

def rPopAt : V → List V → Hp → VK → Prop := fun x vs H Q => ∃ l xs i k y, x = .ref l ∧ vs = [.int i] ∧ H l = some (.lst xs) ∧ -(2 ^ 63) ≤ i ∧ i < 2 ^ 63 ∧ seqIndex? i xs.length = some k ∧ xs[k]? = some y ∧ Q y (upd H l (.lst (xs.eraseIdx k)))
theorem mt_popAt : MtM X "list.pop" rPopAt := by
  intro pins s σ H x vs v us Q I rx rv h
  obtain ⟨l, xs, i, k, y, rfl, rfl, hH, h1, h2, hk, hy, q⟩ := h
  cases rx
  obtain ⟨u, rfl, ru⟩ := rv.one
  obtain ⟨t, rfl⟩ := ru
  obtain ⟨z, its, n, r, hl, e⟩ := I.lstM hH
  obtain ⟨w, hw, rw'⟩ := r.get hy
  refine call_meets F.slot_list_pop ⟨_, e, rfl⟩ F.entry_list_pop (F.args_list_pop_2 _ _)
    (MeetsSeq.list_pop_at l its.toArray n i t k w (fitsIndex_both h1 h2) (by rw [List.size_toArray, ← hl]; exact hk) (by rw [← Array.getElem?_toList]; exact hw) (by rw [List.size_toArray]; omega)) ⟨e, ?_⟩
  refine ⟨y, _, I.lset (its' := its.eraseIdx k) hH e ?_ (r.eraseIdx k) ?_, rw', q⟩
  · show its.toArray.eraseIdxIfInBounds k = (its.eraseIdx k).toArray
    rw [List.eraseIdxIfInBounds_toArray]
  · have := len_erase xs k
    omega

def rReverse : V → List V → Hp → VK → Prop := fun x vs H Q => ∃ l xs, x = .ref l ∧ vs = [] ∧ H l = some (.lst xs) ∧ Q .non (upd H l (.lst xs.reverse))
theorem mt_reverse : MtM X "list.reverse" rReverse := by
  intro pins s σ H x vs v us Q I rx rv h
  obtain ⟨l, xs, rfl, rfl, hH, q⟩ := h
  cases rx
  have hus := rv.zero
  subst hus
  obtain ⟨z, its, n, r, hl, e⟩ := I.lstM hH
  refine call_meets F.slot_list_reverse ⟨_, e, rfl⟩ F.entry_list_reverse (F.args_list_reverse_1 _) (AutoSeq1.list_reverse_list_0 l its.toArray n (by rw [List.size_toArray]; omega)) ⟨e, ?_⟩
  refine ⟨.non, _, I.lset (its' := its.reverse) hH e (by simp) r.reverse ?_, rfl, q⟩
  rw [List.length_reverse]
  omega

def rClear : V → List V → Hp → VK → Prop := fun x vs H Q => ∃ l xs, x = .ref l ∧ vs = [] ∧ H l = some (.lst xs) ∧ Q .non (upd H l (.lst []))
theorem mt_clear : MtM X "list.clear" rClear := by
  intro pins s σ H x vs v us Q I rx rv h
  obtain ⟨l, xs, rfl, rfl, hH, q⟩ := h
  cases rx
  have hus := rv.zero
  subst hus
  obtain ⟨z, its, n, r, hl, e⟩ := I.lstM hH
  refine call_meets F.slot_list_clear ⟨_, e, rfl⟩ F.entry_list_clear (F.args_list_clear_1 _) (AutoSeq1.list_clear_list_0 l its.toArray n (by rw [List.size_toArray]; omega)) ⟨e, ?_⟩
  exact ⟨.non, _, I.lset (its' := []) (ys := []) hH e rfl .nil (Nat.zero_le _), rfl, q⟩

/-! ### list + list, list += list, list * int -/
def rCat : R2 := fun x y H Q => ∃ l b xs zs, x = .ref l ∧ y = .ref b ∧ H l = some (.lst xs) ∧ H b = some (.lst zs) ∧ xs.length + zs.length ≤ sizeLine ∧ ∀ p, H p = none → Q (.ref p) (upd H p (.lst (xs ++ zs)))
theorem op_cat : OpR X (binaryOp .Add) rCat := by
  intro pins s σ H x y v u Q I rx ry h
  obtain ⟨l, b, xs, zs, rfl, rfl, hH, hB, hz, q⟩ := h
  cases rx
  cases ry
  obtain ⟨z, its, n, r, hl, e⟩ := I.lstM hH
  obtain ⟨z2, its2, n2, r2, hl2, e2⟩ := I.lstM hB
  refine PySem.P.add_list e e2 ?_ (by rw [List.size_toArray, List.size_toArray]; omega)
  have ea : its.toArray ++ its2.toArray = (its ++ its2).toArray := by simp
  rw [ea]
  exact ⟨.ref _, _, I.lnew (t' := s.toks) (r.append r2) (by rw [List.length_append]; omega), rfl, q _ I.fresh⟩
/-- a list times an int (a negative one is nothing) -/
def rRep : R2 := fun x y H Q => ∃ l k xs, x = .ref l ∧ y = .int k ∧ H l = some (.lst xs) ∧ -(2 ^ 63) ≤ k ∧ k < 2 ^ 63 ∧ xs.length * k.toNat ≤ sizeLine ∧
  ∀ p, H p = none → Q (.ref p) (upd H p (.lst (List.replicate k.toNat xs).flatten))
theorem len_rep {α : Type} (xs : List α) (k : Nat) : (List.replicate k xs).flatten.length = k * xs.length := by
  induction k with
  | zero => simp
  | succ k ih => rw [List.replicate_succ, List.flatten_cons, List.length_append, ih, Nat.succ_mul, Nat.add_comm]
theorem op_rep : OpR X (binaryOp .Mult) rRep := by
  intro pins s σ H x y v u Q I rx ry h
  obtain ⟨l, k, xs, rfl, rfl, hH, h1, h2, hz, q⟩ := h
  cases rx
  obtain ⟨t, rfl⟩ := ry
  obtain ⟨z, its, n, r, hl, e⟩ := I.lstM hH
  have hlen : its.toArray.size * k.toNat ≤ sizeLine := by rw [List.size_toArray, ← hl]; exact hz
  have hcap : ¬ its.toArray.size * k.toNat > (2 ^ 63 - 1) / 8 := by
    have : (sizeLine : Nat) ≤ (2 ^ 63 - 1) / 8 := by decide
    omega
  have hfit : ¬ (!Builtin.List.listFitsIndex k) = true := by
    rw [fitsIndex_both h1 h2]
    exact Bool.false_ne_true
  have hlong : ¬ Builtin.List.listTooLong (its.toArray.size * k.toNat) = true := by
    rw [notLongL hlen]
    exact Bool.false_ne_true
  have hnew : List.foldl (fun x1 x2 => x1 ++ x2) #[] (List.replicate (if its.toArray.isEmpty = true then 0 else k.toNat) its.toArray) = (List.replicate k.toNat its).flatten.toArray := by
    have f0 : ∀ m : Nat, List.foldl (fun x1 x2 => x1 ++ x2) #[] (List.replicate m its.toArray) = (List.replicate m its).flatten.toArray := fun m => by
      have := foldl_rep its m []
      rw [List.nil_append] at this
      exact this
    rw [f0]
    cases its with
    | nil => simp
    | cons a r' => rw [if_neg (by simp)]
  refine wpAny_binaryOp_repeat_ref (T := "list") (U := "int") (by decide) ⟨_, e, rfl⟩ (fun s' => typeIs_int s' k t) noFill_list_mul F.fills_int_mul F.slot_int_rmul repeat_list F.slot_int_index.lookup
    (call_meets F.slot_int_rmul (typeIs_int s k t) F.entry_int_rmul (F.args_int_rmul_2 _ _) (int___rmul___int_list k t l its.toArray n)
      ⟨e, rfl, ⟨_, e, rfl⟩, call_meets F.slot_list_mul ⟨_, e, rfl⟩ F.entry_list_mul (F.args_list_mul_2 _ _) (AutoListH.list___mul___list_int_3 l its.toArray n k t hfit hcap hlong) ⟨e, ?_⟩⟩)
  rw [hnew]
  exact ⟨.ref _, _, I.lnew (t' := s.toks) (r.rep k.toNat) (by rw [len_rep, Nat.mul_comm]; exact hz), rfl, q _ I.fresh⟩

/-! ### del xs[i] -/
theorem del_list {pins : List (Addr × Obj)} {s : Shared} {σ : St} {H : Hp} {l : Addr} {xs : List V} {i : Int} {t : Tok} {k : Nat} {Q : Unit → Shared → Prop} (I : Inv X pins σ H s) (hH : H l = some (.lst xs))
    (h1 : -(2 ^ 63) ≤ i) (h2 : i < 2 ^ 63) (hk : seqIndex? i xs.length = some k) (h : ∀ s', Inv X pins σ (upd H l (.lst (xs.eraseIdx k))) s' → Q () s') :
    wpAny (model X.prog X.w) X.A (delItem (.ref l) (.int i t)) Q X.xe s := by
  obtain ⟨z, its, n, r, hl, e⟩ := I.lstM hH
  refine PySem.P.delItem_list (k := k) e (fitsIndex_both h1 h2) (by rw [List.size_toArray, ← hl]; exact hk) (h _ ?_) (by rw [List.size_toArray]; omega)
  refine I.lset (its' := its.eraseIdx k) (t' := s.toks) hH e ?_ (r.eraseIdx k) ?_
  · show its.toArray.eraseIdxIfInBounds k = (its.eraseIdx k).toArray
    rw [List.eraseIdxIfInBounds_toArray]
  · have := len_erase xs k
    omega
end

/-! ### xs[a:b] = ys -/
section
variable {prog : Program} {w : World} {A : Around} {E : Value → Shared → Prop} {s : Shared}
theorem splice_eq (its its2 : List Value) (a c : Nat) : its.toArray.extract 0 a ++ its2.toArray ++ its.toArray.extract c its.toArray.size = (its.take a ++ its2 ++ its.drop c).toArray := by
  apply Array.toList_inj.mp
  first
    | (simp
       exact List.take_of_length_le (by simp))
    | simp [List.take_of_length_le]
    | simp
theorem bounds_run {a c n : Nat} (hac : a ≤ c) (hc : c ≤ n) : sliceBounds (some (a : Int)) (some (c : Int)) none n = ((a : Int), (c : Int), 1) := by
  simp only [sliceBounds, Option.getD_none]
  have h1 : ¬ ((a : Int) < 0) := by omega
  have h2 : ¬ ((c : Int) < 0) := by omega
  simp only [h1, h2, if_false, show (1 : Int) > 0 by decide, if_true]
  congr 1
  · omega
  · congr 1; omega
set_option maxRecDepth 100000 in
/-- list.__setitem__ with a slice of step one and another list -/
theorem setItem_slice {l b sl : Addr} {items new : Array Value} {n n2 : Nat} {vl vu : Value} {a c : Nat} {Q : Unit → Shared → Prop}
    (e : s.heap.get? l = some { cls := .type "list", data := .seq items n }) (e2 : s.heap.get? b = some { cls := .type "list", data := .seq new n2 }) (hne : l ≠ b)
    (hs : s.heap.IsSliceOf sl vl vu .none) (pl : IsPart vl (some (a : Int))) (pu : IsPart vu (some (c : Int))) (hac : a ≤ c) (hc : c ≤ items.size)
    (hsz : items.size + new.size ≤ sizeLine) (h : Q () { s with heap := s.heap.update l (Obj.mapSeq fun xs => xs.extract 0 a ++ new ++ xs.extract c xs.size) }) :
    wpAny (model prog w) A (setItem (.ref l) (.ref sl) (.ref b)) Q E s := by
  have hl : s.heap.IsList l items := PySem.IsL.isList e
  have hb : s.heap.IsList b new := PySem.IsL.isList e2
  obtain ⟨os, hos, hcs, hds⟩ := id hs
  have hTs : s.TypeIs (.ref sl) "slice" := ⟨os, hos, hcs⟩
  have hstep : ¬ ((rawPart none == rawInt 0) = true) := Bool.false_ne_true
  have hsame : Builtin.List.listSameRef (.ref l) (.ref b) = false := by
    unfold Builtin.List.listSameRef
    exact beq_eq_false_iff_ne.mpr hne
  have hmax : (max (a : Int) (c : Int)).toNat = c := by omega
  have hz' : ((fun xs : Array Value => xs.extract 0 a ++ new ++ xs.extract c xs.size) items).size ≤ sizeLine + 1 := by
    simp only [Array.size_append, Array.size_extract]
    omega
  unfold setItem
  try with_reducible refine wpAny_holding ?_
  first | refine wpAny_bind (wpAny_pure ?_) | skip
  refine wpAny_bind (wpAny_sequenceKey hl.typeIs (by decide) ?_)
  refine wpAny_bind (wpAny_callSpecial?_slot (name := Str.ofString "__setitem__") hl.typeIs slot_list_setitem
    (wpAny_call_entry slot_list_setitem hl.typeIs entry_list_setitem ?_ (args_list_setitem _ _ _)))
  show wpAny _ _ (Builtin.List.listSubscript? (.ref sl) >>= _) _ _ s
  refine wpAny_bind ?_
  unfold Builtin.List.listSubscript?
  refine wpAny_bind (wpAny_specialOf hTs slice_no_index ?_)
  simp only [Option.isNone_none, if_true]
  refine wpAny_pure ?_
  show wpAny _ _ (typeOf (.ref sl) >>= _) _ _ s
  refine wpAny_bind (wpAny_typeOf hTs ?_)
  first
    | rw [if_neg (by decide)]
    | refine PySem.W.KFB.if_not (by decide) ?_
  rw [listSliceParts_eq]
  refine wpAny_bind (wpAny_bind (wpAny_field hos hds (x := .none) rfl (wpAny_bind (wpAny_listPart .none ?_))))
  rw [if_neg hstep]
  refine wpAny_bind (wpAny_field hos hds (x := vl) rfl (wpAny_bind (wpAny_listPart pl ?_)))
  refine wpAny_bind (wpAny_field hos hds (x := vu) rfl (wpAny_bind (wpAny_listPart pu (wpAny_pure ?_))))
  first
    | simp only [hsame, Bool.false_eq_true, if_false]
    | refine PySem.W.KFB.if_not hsame ?_
    | (dsimp only
       rw [if_neg (by rw [hsame]; exact Bool.false_ne_true)])
  refine wpAny_bind (m := Builtin.List.listAllItems (.ref b) "must assign iterable to extended slice") ?_
  unfold Builtin.List.listAllItems
  refine wpAny_bind (wpAny_typeOf hb.typeIs ?_)
  first
    | refine PySem.W.KFB.if_so (by decide) ?_
    | rw [if_pos (by decide)]
    | simp only [beq_self_eq_true, Bool.true_or, if_true]
  unfold Builtin.List.listItems
  refine wpAny_bind (wpAny_seqItems e2 rfl (wpAny_pure ?_))
  refine wpAny_bind (wpAny_bind (wpAny_seqItems e rfl (wpAny_pure ?_)))
  refine wpAny_bind (wpAny_of_eq ((sliceIndices_raw (some (a : Int)) (some (c : Int)) none items.size (by simp)).trans (congrArg (pure : Int × Int × Int → Sem (Int × Int × Int)) (bounds_run hac hc))) ?_)
  show wpAny _ _ (if ((1 : Int) == 1) = true then _ else _) _ _ s
  rw [if_pos (by decide)]
  refine wpAny_bind (wpAny_rule ?_)
  first
    | simp only [notLongL hsz, Bool.false_eq_true, if_false]
    | refine PySem.W.KFB.if_not (notLongL hsz) ?_
  first | refine wpAny_bind (wpAny_pure ?_) | skip
  show wpAny _ _ (updateSeq l (fun xs => xs.extract 0 ((a : Int)).toNat ++ new ++ xs.extract (max (a : Int) (c : Int)).toNat xs.size) >>= _) _ _ s
  rw [hmax, Int.toNat_natCast]
  refine wpAny_bind (wpAny_updateSeq (hz := Nat.le_trans (Nat.le_add_right _ _) hsz) (_hz' := hz') e rfl ?_)
  refine wpAny_bind (wpAny_letGo ?_)
  first
    | exact wpAny_bind (wpAny_pure (wpAny_pure ⟨.none, rfl, wpAny_pure h⟩))
    | exact wpAny_pure ⟨.none, rfl, wpAny_pure h⟩
end

section
variable {X : Cx}
/-- xs[a:c] = ys of another list, at the value level: sl is the slice object that was just made -/
theorem set_slice {pins : List (Addr × Obj)} {s : Shared} {σ : St} {H : Hp} {l b sl : Addr} {xs ys : List V} {a c : Int} {vl vu : Value} {Q : Unit → Shared → Prop} (I : Inv X pins σ H s)
    (hH : H l = some (.lst xs)) (hB : H b = some (.lst ys)) (hne : l ≠ b) (hs : s.heap.IsSliceOf sl vl vu .none) (ra : RelV (.int a) vl) (rc : RelV (.int c) vu) (h0 : 0 ≤ a) (hac : a ≤ c) (hc : c ≤ xs.length)
    (hz : xs.length + ys.length ≤ sizeLine) (h : ∀ s', Inv X pins σ (upd H l (.lst (xs.take a.toNat ++ ys ++ xs.drop c.toNat))) s' → Q () s') :
    wpAny (model X.prog X.w) X.A (setItem (.ref l) (.ref sl) (.ref b)) Q X.xe s := by
  obtain ⟨ta, rfl⟩ := ra
  obtain ⟨tc, rfl⟩ := rc
  obtain ⟨z, its, n, r, hl, e⟩ := I.lstM hH
  obtain ⟨z2, its2, n2, r2, hl2, e2⟩ := I.lstM hB
  obtain ⟨a', rfl⟩ := Int.eq_ofNat_of_zero_le h0
  obtain ⟨c', rfl⟩ := Int.eq_ofNat_of_zero_le (Int.le_trans h0 hac)
  simp only [Int.toNat_natCast] at h
  refine setItem_slice (a := a') (c := c') e e2 hne hs (.int _ _) (.int _ _) (by omega) (by rw [List.size_toArray]; omega) (by rw [List.size_toArray, List.size_toArray]; omega) (h _ ?_)
  refine I.lset (its' := its.take a' ++ its2 ++ its.drop c') (t' := s.toks) hH e ?_ (Vals.append (Vals.append (r.take _) r2) (r.drop _)) ?_
  · exact splice_eq its its2 a' c'
  · rw [List.length_append, List.length_append, List.length_take, List.length_drop]
    omega
end
end L2

namespace Att
open PySem PySem.W PySem.Calls PyProof.Rows

/-! ### the script -/
theorem ints_of_wellAll {P : Params} {h : Heap} : ∀ (ns : List Int) (vs : List Value), WellAll P h vs (ns.map WData.int) → IntsAre vs ns := by
  intro ns
  induction ns with
  | nil =>
    intro vs w
    rw [List.map_nil] at w
    cases w
    exact .nil
  | cons n ns ih =>
    intro vs w
    rw [List.map_cons] at w
    cases w with
    | cons a b =>
      cases a
      exact .cons _ _ (ih _ b)

theorem script_of {l : OpenLaw} {n : Nat} (hn : l.most = some n) {P : Params} {h : Heap} {args : List WData} {vals : List Value}
    (hpre : l.row.toRowW.claim.pre args = true) (hwl : WellAll P h vals args) :
    ∃ a vs ns, vals = [Value.ref a] ∧ args = [WData.list (ns.map WData.int)] ∧ h.get? a = some { cls := .type "list", data := .seq vs.toArray } ∧ IntsAre vs ns ∧ ns.length ≤ n := by
  have hsh : WShape.hasAll [] args [.list .int] = true := (pre_splitW hpre).1
  have hc : l.pre.holds [] { args := args } = true := (pre_splitW hpre).2
  obtain ⟨d, r, rfl, h1, h2⟩ := hasAllW_cons hsh
  obtain rfl := hasAllW_nil h2
  obtain ⟨xs, rfl, h3⟩ := hasW_list h1
  obtain ⟨ns, rfl⟩ := items_int h3
  have hlen : ns.length ≤ n := by
    unfold OpenLaw.pre at hc
    have h4 : (WTm.not (.lt (.lit (.int (n : Int))) (.len (.arg 0)))).holds [] { args := [.list (ns.map .int)] } = true := by
      have h4 := (holds_andW hc).1
      rw [hn] at h4
      exact h4
    have h5 := condW_of h4 (w_not (w_lt w_lit (w_len_list (w_arg rfl))))
    rw [List.length_map] at h5
    refine Nat.le_of_not_lt fun q => ?_
    have q' : (n : Int) < ((ns.length : Nat) : Int) := by omega
    first
      | (rw [decide_eq_true q'] at h5; exact absurd h5 (by decide))
      | (simp at h5; omega)
  cases hwl with
  | cons w1 w2 =>
    cases w2
    cases w1 with
    | list ho hall => exact ⟨_, _, ns, rfl, rfl, ho, ints_of_wellAll ns _ hall, hlen⟩

theorem post_true (l : OpenLaw) (args : List WData) : l.row.toRowW.claim.post args (.bool true) args = true :=
  postW_of (r := l.row.toRowW) (X := (true == true))
    (show WShape.has [] (.bool true) .bool = true by first | rfl | decide | simp [WShape.has, WShape.arms, WShape.armsAll])
    (show (WTm.eq .res (.lit (.bool true))).value [] { args := args, res := some (.bool true), after := args } = some (.bool (true == true)) from w_eq_bool (w_res rfl) w_lit) rfl

/-! ### the attachment: holds_open's last premise (the goal 'hc' behind k_head) from a wpAny of the law's body -/
theorem attach {l : OpenLaw} {n : Nat} {q : Program} {loose : List Str} {XP : (Str → Option Value) → Heap → Prop} {YP : World → Heap → Prop} {d : DefRec} {x : Str}
    (hn : l.most = some n) (hdf : d.params.defaults = [])
    (hbind : ∀ pm cd doc v : Value, bindArgs (docDef d.name d.params d.body d.scope pm cd doc) ⟨[v], []⟩ = pure [(x, v)])
    (hx : d.scope.names.lookup x = some .local ∨ d.scope.names.lookup x = some .cell)
    (hk : d.scope.kind = .function) (hco : d.scope.isCoroutine = false) (hgen : d.scope.isGenerator = false)
    (body : ∀ (w : World) (s₀ s₁ s : Shared) (mg mb : Str → Option Value) (fa : Addr) (o : Obj) (pm cd doc : Value) (a : Addr) (vs : List Value) (ns : List Int),
      Ground q loose [] XP w s₀ mg mb s₁.heap → YP w s₁.heap →
      s₁.heap.get? fa = some o → o.data = .func (docDef d.name d.params d.body d.scope pm cd doc) → s₁.heap.CodeRec cd d.name → mg d.name = some (.ref fa) →
      s₁.heap.get? a = some { cls := .type "list", data := .seq vs.toArray } → IntsAre vs ns → ns.length ≤ n →
      s.gens = #[] → s.os = s₁.os →
      Fr s₁.heap s₁.heap.objs.size s.heap (bindL (envOfC d.name d.scope s₁.heap.objs.size fa cd).kindOf [(x, .ref a)] fun _ => none) →
      Cl s₁.heap.objs.size (cellsFrom (s₁.heap.objs.size + 1) d.scope.names []) s.heap (bindC (envOfC d.name d.scope s₁.heap.objs.size fa cd).kindOf [(x, .ref a)] fun _ => none) →
      wpAny (model l.prog w) (callerA.deeper (envOfC d.name d.scope s₁.heap.objs.size fa cd)) (execs d.body (envOfC d.name d.scope s₁.heap.objs.size fa cd))
        (fun f s' => f = .ret (.bool true) ∧ OldK s₁.heap s'.heap ∧ s'.os = s₁.os ∧ AllBare s'.gens) (fun _ _ => False) s) :
    WalkO q loose XP YP l.row.toRowW d [] (fun f vs => PySem.call f vs) := by
  intro w s₀ s₁ mg mb G Y fa o pm cd doc dV kV ho hd hcd hD hmg hg args vals as hpre hlay hrd hwl hlo
  obtain rfl : dV = .none := Dflts.none hD hdf
  obtain rfl : kV = .none := Dflts.noKw hD
  obtain ⟨a, vs, ns, rfl, rfl, hobj, hints, hlen⟩ := script_of hn hpre hwl
  refine enter_call ?_
  refine call_cells_ret (o := o) (by rw [depth_caller]; decide) ho (fd_plain hd) G.T.nolimit hcd (hbind pm cd doc (.ref a)) (fun y hy => ?_) (fun h₁ tk F X => ?_) hco hgen hk
  · obtain rfl : y = (x, Value.ref a) := List.mem_singleton.mp hy
    rcases hx with e | e
    · exact .inl e
    · exact .inr ⟨e, cellsFrom_some _ _ _ (.inl e)⟩
  · refine wpAny_mono (body w s₀ s₁ { s₁ with heap := h₁, toks := tk } mg mb fa o pm cd doc a vs ns G Y ho (fd_plain hd) hcd hmg hobj hints hlen hg rfl F X) (fun f s' hq => ?_) (fun _ _ hq => hq)
    obtain ⟨rfl, h2, h3, h4⟩ := hq
    exact ⟨.inl ⟨.bool true, .bool true, [], rfl, fun _ => rfl, .bool true, post_true l _, fun _ => ⟨List.Pairwise.nil, fun _ hm => (nomatch hm)⟩⟩, h2, h3, h4⟩

/-- the same from a codeAny of the CALL (for a layer whose function contracts speak of calls) -/
theorem attach_call {l : OpenLaw} {n : Nat} {q : Program} {loose : List Str} {XP : (Str → Option Value) → Heap → Prop} {YP : World → Heap → Prop} {d : DefRec}
    (hn : l.most = some n) (hdf : d.params.defaults = [])
    (call : ∀ (w : World) (s₀ s₁ : Shared) (mg mb : Str → Option Value) (fa : Addr) (o : Obj) (pm cd doc : Value) (a : Addr) (vs : List Value) (ns : List Int),
      Ground q loose [] XP w s₀ mg mb s₁.heap → YP w s₁.heap →
      s₁.heap.get? fa = some o → o.data = .func (docDef d.name d.params d.body d.scope pm cd doc) → s₁.heap.CodeRec cd d.name → mg d.name = some (.ref fa) →
      s₁.heap.get? a = some { cls := .type "list", data := .seq vs.toArray } → IntsAre vs ns → ns.length ≤ n → s₁.gens = #[] →
      codeAny (model l.prog w) callerA (.call (.ref fa) ⟨[.ref a], []⟩) (fun r s' => r = .ok (.ret (.bool true)) ∧ OldK s₁.heap s'.heap ∧ s'.os = s₁.os ∧ AllBare s'.gens) s₁) :
    WalkO q loose XP YP l.row.toRowW d [] (fun f vs => PySem.call f vs) := by
  intro w s₀ s₁ mg mb G Y fa o pm cd doc dV kV ho hd hcd hD hmg hg args vals as hpre hlay hrd hwl hlo
  obtain rfl : dV = .none := Dflts.none hD hdf
  obtain rfl : kV = .none := Dflts.noKw hD
  obtain ⟨a, vs, ns, rfl, rfl, hobj, hints, hlen⟩ := script_of hn hpre hwl
  refine enter_call (codeAny_mono (call w s₀ s₁ mg mb fa o pm cd doc a vs ns G Y ho (fd_plain hd) hcd hmg hobj hints hlen hg) fun r s' hq => ?_)
  obtain ⟨rfl, h2, h3, h4⟩ := hq
  exact ⟨.inl ⟨.bool true, .bool true, [], rfl, fun _ => rfl, .bool true, post_true l _, fun _ => ⟨List.Pairwise.nil, fun _ hm => (nomatch hm)⟩⟩, h2, h3, h4⟩

/-- the same where the top left finished generators (o_head chose holds_openN): nothing may have changed at all and no generator may be left -/
theorem attachN {l : OpenLaw} {n : Nat} {q : Program} {loose : List Str} {XP : (Str → Option Value) → Heap → Prop} {YP : World → Heap → Prop} {d : DefRec} {x : Str}
    (hn : l.most = some n) (hdf : d.params.defaults = [])
    (hbind : ∀ pm cd doc v : Value, bindArgs (docDef d.name d.params d.body d.scope pm cd doc) ⟨[v], []⟩ = pure [(x, v)])
    (hx : d.scope.names.lookup x = some .local ∨ d.scope.names.lookup x = some .cell)
    (hk : d.scope.kind = .function) (hco : d.scope.isCoroutine = false) (hgen : d.scope.isGenerator = false)
    (body : ∀ (w : World) (s₀ s₁ s : Shared) (mg mb : Str → Option Value) (fa : Addr) (o : Obj) (pm cd doc : Value) (a : Addr) (vs : List Value) (ns : List Int),
      Ground q loose [] XP w s₀ mg mb s₁.heap → YP w s₁.heap →
      s₁.heap.get? fa = some o → o.data = .func (docDef d.name d.params d.body d.scope pm cd doc) → s₁.heap.CodeRec cd d.name → mg d.name = some (.ref fa) →
      s₁.heap.get? a = some { cls := .type "list", data := .seq vs.toArray } → IntsAre vs ns → ns.length ≤ n →
      s.gens = #[] → s.os = s₁.os →
      Fr s₁.heap s₁.heap.objs.size s.heap (bindL (envOfC d.name d.scope s₁.heap.objs.size fa cd).kindOf [(x, .ref a)] fun _ => none) →
      Cl s₁.heap.objs.size (cellsFrom (s₁.heap.objs.size + 1) d.scope.names []) s.heap (bindC (envOfC d.name d.scope s₁.heap.objs.size fa cd).kindOf [(x, .ref a)] fun _ => none) →
      wpAny (model l.prog w) (callerA.deeper (envOfC d.name d.scope s₁.heap.objs.size fa cd)) (execs d.body (envOfC d.name d.scope s₁.heap.objs.size fa cd))
        (fun f s' => f = .ret (.bool true) ∧ (∀ b o, s₁.heap.get? b = some o → s'.heap.get? b = some o) ∧ s'.os = s₁.os ∧ s'.gens = #[]) (fun _ _ => False) s) :
    WalkN q loose XP YP l.row.toRowW d [] (fun f vs => PySem.call f vs) := by
  intro w s₀ s₁ mg mb G Y fa o pm cd doc dV kV ho hd hcd hD hmg hg args vals as hpre hlay hrd hwl hlo
  obtain rfl : dV = .none := Dflts.none hD hdf
  obtain rfl : kV = .none := Dflts.noKw hD
  obtain ⟨a, vs, ns, rfl, rfl, hobj, hints, hlen⟩ := script_of hn hpre hwl
  refine enter_callW ?_
  refine call_cells_ret (o := o) (by rw [depth_caller]; decide) ho (fd_plain hd) G.T.nolimit hcd (hbind pm cd doc (.ref a)) (fun y hy => ?_) (fun h₁ tk F X => ?_) hco hgen hk
  · obtain rfl : y = (x, Value.ref a) := List.mem_singleton.mp hy
    rcases hx with e | e
    · exact .inl e
    · exact .inr ⟨e, cellsFrom_some _ _ _ (.inl e)⟩
  · refine wpAny_mono (body w s₀ s₁ { s₁ with heap := h₁, toks := tk } mg mb fa o pm cd doc a vs ns G Y ho (fd_plain hd) hcd hmg hobj hints hlen hg rfl F X) (fun f s' hq => ?_) (fun _ _ hq => hq)
    obtain ⟨rfl, h2, h3, h4⟩ := hq
    exact ⟨.inl ⟨.bool true, .bool true, [], rfl, fun _ => rfl, .bool true, post_true l _, fun _ => ⟨List.Pairwise.nil, fun _ hm => (nomatch hm)⟩⟩, h2, h3, h4⟩

/-! ### rules over ANY heap (no ledger) from facts about the written part K: the library's own take a ledger (News) for what they write -/
section
variable {prog : Program} {w : World} {A : Around} {E : Value → Shared → Prop} {s : Shared} {K : Frag}

/-- a def of the module, or a method (qual 'C.m'), entered: the frame is the next address; cells behind it -/
theorem call_fn {R : Result → Shared → Prop} {name qual : Str} {params : Arguments} {body : List Stmt} {scope : Scope} {dV kV doc pm cdv ct oc : Value} {an od : Option Addr} {osl : Array (Option Value)} {f : Addr} {args : Args} {binds : List (Str × Value)}
    (X : K.In s.heap) (hlim : s.heap.NoLimit) (ho : K.lookup f = some ⟨oc, od, .func (fnOf name qual params body scope dV kV doc pm an cdv ct), osl⟩) (hcd : codeIn K cdv qual = true) (hroom : A.depth < recursionLimit)
    (hbind : BindsTo s (fnOf name qual params body scope dV kV doc pm an cdv ct) args binds)
    (hkind : (binds.all fun y => scope.names.lookup y.1 == some .local || scope.names.lookup y.1 == some .cell) = true)
    (h : ∀ s₁, InCallC s s.heap.objs.size (bindL (envOfC qual scope s.heap.objs.size f cdv).kindOf binds fun _ => none) (cellsFrom (s.heap.objs.size + 1) scope.names [])
        (bindC (envOfC qual scope s.heap.objs.size f cdv).kindOf binds fun _ => none) s₁ →
      wpAny (model prog w) (A.deeper (envOfC qual scope s.heap.objs.size f cdv)) (execs body (envOfC qual scope s.heap.objs.size f cdv))
        (fun fl s' => R (.ok (.ret (match fl with | .ret v => v | _ => .none))) s')
        (fun e s' => wpAny (model prog w) (A.deeper (envOfC qual scope s.heap.objs.size f cdv)) (leaving (envOfC qual scope s.heap.objs.size f cdv) e) (fun _ s'' => R (.error e) s'') (fun e' s'' => R (.error e') s'') s') s₁)
    (hco : scope.isCoroutine = false) (hgen : scope.isGenerator = false) (hk : scope.kind = .function) : codeAny (model prog w) A (.call (.ref f) args) R s := by
  refine codeAny_call_function hroom (X _ _ ho) rfl hco hgen rfl (codeRec_of X hcd) (hbind _ _ _ _ ?_)
  refine wpAny_newFunctionEnv_cells hk (kindsX hkind _) fun env he s₁ x => ?_
  subst he
  exact ⟨hlim.keeps x.toInCall.keep, codeAny_func (h s₁ x)⟩

/-- C(..): dict at size, instance at size + 1, then __init__ -/
theorem make_obj {R : Result → Shared → Prop} {C fI : Addr} {rest : List Value} {kw : List (Str × Value)}
    (X : K.In s.heap) (hm : makesIn K C = true) (hi : findIn K (.ref C) "__init__" = some (some (.ref fI))) (hf : isFn K (.ref fI) = true)
    (h : codeAny (model prog w) (A.under (.builtin "type.__call__" ⟨.ref C :: rest, kw⟩)) (.call (.ref fI) ⟨.ref (s.heap.objs.size + 1) :: rest, kw⟩) (InitBack (s.heap.objs.size + 1) R)
      { s with heap := (s.heap.push emptyDict).push (instObj C s.heap.objs.size) }) : codeAny (model prog w) A (.call (.ref C) ⟨rest, kw⟩) R s := by
  obtain ⟨hh, g, d, t, os⟩ := s
  exact make_core (makes_of X hm) (looks_findIn X hi) (fun self => bind_fn X self (beq_iff_eq.mp hf)) (.inl rfl) h

/-- x.name where the instance's dict holds the name and the class does not -/
theorem get_field {x C : Addr} {ox : Obj} {es : List DictEntry} {n : Nat} {name : Str} {expr : Bool} {v : Value} {Q : Value → Shared → Prop}
    (X : K.In s.heap) (I : PySem.W.InstAt s.heap x ox C (some (dictOf es n))) (hg : plainGet K C name = true) (hh : hasDictIn K C = true) (ha : findIn K (.ref C) name = some none)
    (hl : getL name es = some (some v)) (hv : handedIn v = true) (h : Q v { s with toks := s.toks + 1 }) : wpAny (model prog w) A (getAttr (.ref x) name expr) Q E s :=
  get_value X I (plainGet_of hg).1 (findObj_own hh ha rfl hl) hv h

/-- x.m(..): the method found in the class -/
theorem get_method {x C f : Addr} {ox : Obj} {es : List DictEntry} {n : Nat} {name : Str} {pl : Sem Bool} {Q : Value × List Value → Shared → Prop}
    (X : K.In s.heap) (I : PySem.W.InstAt s.heap x ox C (some (dictOf es n))) (hg : plainGet K C name = true) (hf : findIn K (.ref C) name = some (some (.ref f))) (ht : isFn K (.ref f) = true)
    (hl : getL name es = some none) (h : Q (.ref f, [.ref x]) s) : wpAny (model prog w) A (getMethod (.ref x) name pl) Q E s :=
  method_fn X I (plainGet_of hg).1 (plainGet_of hg).2 hf (beq_iff_eq.mp ht) (by show (lookIn name (dictOf es n)).map _ = _; rw [lookIn_dict, hl]; rfl) h

/-! the whole heap as the ledger: makes every rule that writes through a ledger a rule over any heap -/
def noObjs (h : Heap) : Heap := { h with objs := #[] }
theorem noObjs_get (h : Heap) (b : Addr) : (noObjs h).get? b = none := by
  cases e : (noObjs h).get? b with
  | none => rfl
  | some o => exact absurd (Heap.lt_size e) (Nat.not_lt_zero _)
def ledger (h : Heap) (L d : Addr) : List (Addr × Obj) := (List.range h.objs.size).filterMap fun a => if a = L ∨ a = d then none else (h.get? a).map fun o => (a, o)
theorem mem_ledger {h : Heap} {L d a : Addr} {o : Obj} : (a, o) ∈ ledger h L d ↔ a ≠ L ∧ a ≠ d ∧ h.get? a = some o := by
  unfold ledger
  rw [List.mem_filterMap]
  constructor
  · rintro ⟨b, _, e⟩
    split at e
    · cases e
    · rename_i hb
      obtain ⟨o', ho, e'⟩ := Option.map_eq_some_iff.mp e
      cases e'
      exact ⟨fun q => hb (.inl q), fun q => hb (.inr q), ho⟩
  · rintro ⟨n1, n2, ho⟩
    refine ⟨a, List.mem_range.mpr (Heap.lt_size ho), ?_⟩
    rw [if_neg (show ¬ (a = L ∨ a = d) from fun q => q.elim n1 n2), ho] <;> rfl
theorem news_ledger {h : Heap} {L d : Addr} {od : Obj} (hne : d ≠ L) (ho : h.get? d = some od) : News (noObjs h) L h ([] ++ (d, od) :: ledger h L d) := by
  rintro ⟨a, o⟩ hp
  rcases List.mem_cons.mp hp with e | hp
  · cases e
    exact ⟨ho, hne, noObjs_get _ _⟩
  · obtain ⟨n1, n2, e⟩ := mem_ledger.mp hp
    exact ⟨e, n1, noObjs_get _ _⟩
theorem fr_all {h : Heap} {L : Addr} {m : Str → Option Value} (n : h.Ns L m) : Fr (noObjs h) L h m :=
  ⟨n, fun b o e => (by rw [noObjs_get] at e; cases e), Nat.zero_le _⟩
/-- Upd of the head entry (for append_K, setItem_K ..) -/
theorem upd_ledger {h : Heap} {L d : Addr} {o o' : Obj} : Upd d o o' ((d, o) :: ledger h L d) ((d, o') :: ledger h L d) :=
  .head fun ⟨_, _⟩ hp => (mem_ledger.mp hp).2.1

/-- x.name = v over any heap: L is any namespace of the heap (the frame's, say): its map stays, its object is not told; all else but the dict stays -/
theorem set_field {x C dx L : Addr} {ox : Obj} {m : Str → Option Value} {es es' : List DictEntry} {n n' : Nat} {name : Str} {v : Value} {Q : Unit → Shared → Prop}
    (X : K.In s.heap) (I : PySem.W.InstAt s.heap x ox C (some (dictOf es n))) (hd : ox.dict = some dx) (hL : s.heap.Ns L m) (hne : dx ≠ L)
    (hs : findIn K (.ref C) "__setattr__" = some (some (.builtin "object.__setattr__"))) (hp : plainOver K C = true) (ht : takerIn K C name = some none) (hh : hasDictIn K C = true) (hl : (getL name es).isSome = true)
    (e : (putL name (PyData.keyHash w.params name) (.str name (s.toks + 1)) v es, putN name es n) = (es', n')) (hz : es'.length ≤ 1000)
    (h : ∀ h' : Heap, h'.Ns L m → h'.get? dx = some (dictOf es' n') → (∀ b o, b ≠ dx → b ≠ L → s.heap.get? b = some o → h'.get? b = some o) → Q () { s with heap := h', toks := s.toks + 2 }) :
    wpAny (model prog w) A (setAttr (.ref x) name v) Q E s := by
  obtain ⟨e1, e2⟩ := Prod.mk.inj e
  have hdx : s.heap.get? dx = some (dictOf es n) := by
    have := I.dict
    rw [hd] at this
    exact this
  refine set_plain X I hs (osa_dict (s := { s with toks := s.toks + 1 }) (h₀ := noObjs s.heap) (L := L) (m := m) (od := dictOf es n) (od' := dictOf es' n') (es := es') (n := n') (pre := []) (post := ledger s.heap L dx)
    (fr_all hL) (news_ledger hne hdx) X I hd hp ht hh hl (fun _ q => nomatch q) (fun ⟨_, _⟩ q => (mem_ledger.mp q).2.1) (by rw [putName_dict, e1, e2]) rfl hz fun h' F' N' => ?_)
  exact h h' F'.ns (N'.get (List.Mem.head _)) fun b o n1 n2 ho => N'.get (List.Mem.tail _ (mem_ledger.mpr ⟨n2, n1, ho⟩))
end
end Att

namespace L2
open PySem PySem.Spec PyProof.Rows

theorem vals_ints : ∀ {vs : List Value} {ns : List Int}, IntsAre vs ns → Vals (ns.map V.int) vs
  | _, _, .nil => .nil
  | _, _, .cons n t h => .cons ⟨t, rfl⟩ (vals_ints h)

/-- nothing is tracked but the script, known to the object (or it is an object of the module) -/
def Only (H : Hp) : Prop := ∀ b, H b = none ∨ ∃ o xs, H b = some (.frz o (.lst xs))

/-- THE HEAD: the law's promise, at the heap behind the top. F, the promise of the law's def, may use that base is part of the heap (so K.In base, base.Ns mainGlobals mg stand in Mod) -/
theorem law_call {P : Program} {w : World} {K : PySem.W.Frag} {mg mb : Str → Option Value} {CX : CXT} {k : Nat} {fa a : Addr} {fd : FuncData} {x : Str} {sp : Sp} {s₁ : Shared} {vs : List Value} {ns : List Int}
    (KX : K.In s₁.heap) (hns : s₁.heap.Ns mainGlobals mg) (hb : s₁.heap.Ns builtinsNs mb) (hbb : ∀ x : Str, x ≠ "__name__" → mb x = bootBuiltins x) (hlim : s₁.heap.NoLimit) (hg : s₁.gens = #[])
    (ha : s₁.heap.get? a = some { cls := .type "list", data := .seq vs.toArray }) (hi : IntsAre vs ns) (hl : ns.length ≤ sizeLine) (hr : Room k callerA)
    (F : ∀ base : Heap, K.In base → base.Ns mainGlobals mg → FnOk P w K mg base CX k fa fd [x] sp) (hbind : ∀ (s : Shared) (u : Value), BindsTo s fd ⟨[u], []⟩ [(x, u)])
    (hsp : ∀ H : Hp, Only H → SqL K H a (ns.map V.int) → sp [.ref a] H (fun v _ => v = .bl true) fun _ _ _ => False)
    (hCX : ∀ H e s', CX [] H s₁ (fun _ _ _ => False) e s' → False) :
    codeAny (model P w) callerA (.call (.ref fa) ⟨[.ref a], []⟩) (fun r s' => r = .ok (.ret (.bool true)) ∧ OldK s₁.heap s'.heap ∧ s'.os = s₁.os ∧ AllBare s'.gens) s₁ := by
  have rv := vals_ints hi
  have lenV := hi.length
  -- from an abstract heap in which nothing but the script may be tracked
  have core : ∀ H : Hp, Only H → SqL K H a (ns.map V.int) → HOk P w H s₁.heap → (∀ b, H b ≠ none → b = a) → (H a ≠ none → K.lookup a = none) →
      codeAny (model P w) callerA (.call (.ref fa) ⟨[.ref a], []⟩) (fun r s' => r = .ok (.ret (.bool true)) ∧ OldK s₁.heap s'.heap ∧ s'.os = s₁.os ∧ AllBare s'.gens) s₁ := by
    intro H hO hS hok hA hK
    have base_of : ∀ {b : Addr} {o : Obj}, s₁.heap.get? b = some o → H b = none → (hidT s₁.heap H).get? b = some o := fun e n => hidT_get e n
    have noA : ∀ {b : Addr} {o : Obj} {es : Array DictEntry} {ep : Nat}, s₁.heap.get? b = some o → o.data = .dict es ep → H b = none := fun {b o es ep} e d => by
      cases q : H b with
      | none => rfl
      | some u =>
        have e' : b = a := hA b (by rw [q]; simp)
        subst e'
        rw [ha] at e; cases e
        have d' : Data.seq vs.toArray _ = Data.dict es ep := d
        cases d'
    have nsK : ∀ {b : Addr} {m : Str → Option Value}, s₁.heap.Ns b m → (hidT s₁.heap H).Ns b m := fun {b m} ⟨o, es, ep, e, d, r⟩ => ⟨o, es, ep, base_of e (noA e d), d, r⟩
    have hKb : K.In (hidT s₁.heap H) := fun b o e => base_of (KX b o e) (by
      cases q : H b with
      | none => rfl
      | some u =>
        have e' : b = a := hA b (by rw [q]; simp)
        subst e'
        rw [hK (by rw [q]; simp)] at e; cases e)
    have hM : Mod K mg (hidT s₁.heap H) := ⟨hKb, nsK hns, ⟨mb, nsK hb, hbb⟩, let ⟨mc, h1, h2⟩ := hlim; ⟨mc, nsK h1, h2⟩⟩
    have e0 : Env0 P w K mg (hidT s₁.heap H) callerA [] s₁ H := ⟨rfl, hM, fun b o e => of_hidT e, Nat.le_of_eq (hidT_size _ _), trivial, fun b hb => absurd (show b ∈ ([] : List Addr) from hb) (by simp), hok, .of_eq hg⟩
    refine codeAny_mono ((F _ hKb (nsK hns)).run callerA [] s₁ H ⟨[.ref a], []⟩ [.ref a] [.ref a] _ _ hr e0 (hbind s₁ (.ref a)) (.cons rfl .nil) (hsp H hO hS)) fun r s' h => ?_
    cases r with
    | error e => exact (hCX H e s' h).elim
    | ok fl =>
      cases fl with
      | next => exact False.elim h
      | brk => exact False.elim h
      | cont => exact False.elim h
      | ret u =>
        obtain ⟨v, H', os, bare, un, hok', r', q⟩ := h
        have q' : v = .bl true := q
        subst q'
        obtain rfl : u = Value.bool true := r'
        refine ⟨rfl, OldK.of_keep fun b o e => ?_, os, bare⟩
        cases q : H b with
        | none => exact un.keep b o e q (by intro z; exact absurd (show b ∈ ([] : List Addr) from z) (by simp)) (by simp)
        | some u =>
          rcases hO b with z | ⟨ob, xs, z⟩
          · rw [q] at z; cases z
          · have z2 := un.frzs b ob _ z
            obtain ⟨e1, _⟩ := hok b _ z
            obtain ⟨e2, _⟩ := hok' b _ z2
            rw [e] at e1; cases e1
            exact e2
  cases hk : K.lookup a with
  | some o =>
    -- the script is one of the module's own objects
    have e := KX a o hk
    rw [ha] at e
    cases e
    refine core (fun _ => none) (fun _ => .inl rfl) (.inr ⟨_, vs.toArray, _, hk, rfl, rfl, rfl, by rw [List.size_toArray, lenV]; exact hl, by simpa using rv⟩) (fun b u z => by have z' : (none : Option HO) = some u := z; cases z') (fun b z => absurd rfl z) fun z => absurd rfl z
  | none =>
    refine core (fun b => if b = a then some (.frz { cls := .type "list", data := .seq vs.toArray } (.lst (ns.map V.int))) else none) (fun b => ?_) (.inl (.inr ⟨{ cls := .type "list", data := .seq vs.toArray }, if_pos rfl⟩)) (fun b u z => ?_) (fun b z => ?_) fun _ => hk
    · by_cases hb : b = a
      · exact .inr ⟨_, _, if_pos hb⟩
      · exact .inl (if_neg hb)
    · by_cases hb : b = a
      · have z' := (if_pos hb).symm.trans z
        cases z'
        subst hb
        exact ⟨ha, by rw [List.length_map]; exact hl, vs, _, rv, ha⟩
      · have z' := (if_neg hb).symm.trans z
        cases z'
    · by_cases hb : b = a
      · exact hb
      · exact absurd (if_neg hb) z
end L2

namespace L2
open PySem PySem.Spec PyProof.Rows

abbrev KOf {K : PySem.W.Frag} {h : Heap} (_ : K.In h) : PySem.W.Frag := K

/-- the goal that k_head leaves (case hc), from the law's promise. F gives the function object fd (K's own) once, then the promise over every base -/
theorem walk_of {l : PySem.W.OpenLaw} {n k : Nat} {q : Program} {loose : List Str} {XP : (Str → Option Value) → Heap → Prop} {YP : World → Heap → Prop} {d : DefRec} {K : Params → PySem.W.Frag} {CX : World → CXT} {sp : World → Sp} {x : Str}
    (hn : l.most = some n) (hn2 : n ≤ sizeLine) (hdf : d.params.defaults = []) (hr : Room k callerA)
    (hY : ∀ (w : World) (h : Heap), YP w h → (K w.params).In h)
    (F : ∀ (w : World) (mg : Str → Option Value) (fa : Addr) (h : Heap), (K w.params).In h → h.Ns mainGlobals mg → mg d.name = some (.ref fa) →
      ∃ fd : FuncData, (∀ (s : Shared) (u : Value), BindsTo s fd ⟨[u], []⟩ [(x, u)]) ∧
        ∀ base : Heap, (K w.params).In base → base.Ns mainGlobals mg → FnOk l.prog w (K w.params) mg base (CX w) k fa fd [x] (sp w))
    (hsp : ∀ (w : World) (H : Hp) (a : Addr) (ns : List Int), ns.length ≤ n → Only H → SqL (K w.params) H a (ns.map V.int) → sp w [.ref a] H (fun v _ => v = .bl true) fun _ _ _ => False)
    (hCX : ∀ (w : World) (H : Hp) (s : Shared) (e : Value) (s' : Shared), CX w [] H s (fun _ _ _ => False) e s' → False) :
    PySem.W.WalkO q loose XP YP l.row.toRowW d [] (fun f vs => PySem.call f vs) := by
  refine Att.attach_call hn hdf fun w s₀ s₁ mg mb fa o pm cd doc a vs ns G Y ho hd hcd hmg hobj hints hlen hg => ?_
  have KX := hY w _ Y
  obtain ⟨fd, hb, hF⟩ := F w mg fa _ KX G.T.g hmg
  exact law_call KX G.T.g G.T.b G.T.builtins G.T.nolimit hg hobj hints (Nat.le_trans hlen hn2) hr hF hb (fun H hO hS => hsp w H a ns hlen hO hS) fun H e s' => hCX w H s₁ e s'
/-- the same where the promise hangs on the written part alone: (sp := My.sp_law), no hole under a binder -/
theorem walk_ofK {l : PySem.W.OpenLaw} {n k : Nat} {q : Program} {loose : List Str} {XP : (Str → Option Value) → Heap → Prop} {YP : World → Heap → Prop} {d : DefRec} {K : Params → PySem.W.Frag} {CX : CXT} {sp : PySem.W.Frag → Sp} {x : Str}
    (hn : l.most = some n) (hn2 : n ≤ sizeLine) (hdf : d.params.defaults = []) (hr : Room k callerA)
    (hY : ∀ (w : World) (h : Heap), YP w h → (K w.params).In h)
    (F : ∀ (w : World) (mg : Str → Option Value) (fa : Addr) (h : Heap), (K w.params).In h → h.Ns mainGlobals mg → mg d.name = some (.ref fa) →
      ∃ fd : FuncData, (∀ (s : Shared) (u : Value), BindsTo s fd ⟨[u], []⟩ [(x, u)]) ∧
        ∀ base : Heap, (K w.params).In base → base.Ns mainGlobals mg → FnOk l.prog w (K w.params) mg base CX k fa fd [x] (sp (K w.params)))
    (hsp : ∀ (K : PySem.W.Frag) (H : Hp) (a : Addr) (ns : List Int), ns.length ≤ n → Only H → SqL K H a (ns.map V.int) → sp K [.ref a] H (fun v _ => v = .bl true) fun _ _ _ => False)
    (hCX : ∀ (H : Hp) (s : Shared) (e : Value) (s' : Shared), CX [] H s (fun _ _ _ => False) e s' → False) :
    PySem.W.WalkO q loose XP YP l.row.toRowW d [] (fun f vs => PySem.call f vs) :=
  walk_of (K := K) (CX := fun _ => CX) (sp := fun w => sp (K w.params)) hn hn2 hdf hr hY F (fun w H a ns h1 h2 h3 => hsp (K w.params) H a ns h1 h2 h3) fun _ H s e s' => hCX H s e s'
end L2

/- THE LAST THEOREM (shape; LID, My.* are yours):
   My.Adr: a structure of the addresses that your layer names (classes, functions); My.Txt K t: a structure (Prop) of the equations over K;
   My.txt_mk : {K} {implicit addresses ..} (e1 : nsIn K mainGlobals "law" = some (some (.ref f))) (e2 : K.lookup f = some ⟨oc, od, .func (fnOf "law" "law" params body scope dV kV doc pm an cdv ct), sl⟩) (e3 : codeIn K cdv "law" = true) .. : ∃ t, My.Txt K t

set_option maxRecDepth 100000 in
set_option maxHeartbeats 0 in
theorem PySem.Challenge.cw_LID_holds : PySem.Challenge.rw_LID.Holds := by
  w_on; o_law; k_head; (case hw => w_witness2)
  k_fill
  refine L2.walk_of (l := PySem.Challenge.rw_LID) (n := 63) (k := 40) (x := "script") (CX := fun w => ..) (sp := fun _ => My.sp_law) rfl (by decide) rfl ⟨rfl, by decide, by decide⟩ (fun w h Y => PySem.W.kIn_of Y) ?F ?S ?C
  case F =>
    intro w mg fa h KX G hmg
    have T : ∃ t, My.Txt (L2.KOf KX) t := by
      dsimp only [L2.KOf]                          -- K must stand as «<heap const> w.params» for k_is
      refine' My.txt_mk ?e1 ?e2 ?e3 ..
      (case e1 => PySem.W.k_is)                    -- in the order: a name -> its address -> its object -> its parts
      (case e2 => PySem.W.k_is)
      ..
    obtain ⟨t, T⟩ := T
    have e0 := hmg.symm.trans (PySem.W.mg_of KX G T.law)
    cases e0                                       -- fa is the law's own address
    exact ⟨_, fun s u => .of_eq rfl, fun base kb nb => My.law_fn T kb nb⟩     -- if «.of_eq rfl» comes too early: refine' ⟨_, ?b, fun base kb nb => My.law_fn T kb nb⟩; exact fun s u => .of_eq rfl
  case S => exact fun w H a ns hl hO hS => ..
  case C => exact ..
(the tactic k_is has no namespace: write k_is) -/

/-! SHORT WORDS over the layer: a def of the text, its body, what a loop and a test want. -/
namespace L2
open PySem PySem.Spec PyProof.Rows

/-! ### the text by places -/
/-- the j-th statement of a class's body -/
def inClass (s : Stmt) (j : Nat) : Stmt := match s with
  | .ClassDef _ _ _ body _ _ _ _ _ _ _ => body.getD j (.Pass ⟨0, 0, 0, 0⟩)
  | _ => .Pass ⟨0, 0, 0, 0⟩
def defArgs (s : Stmt) : Arguments := match s with
  | .FunctionDef _ a _ _ _ _ _ _ _ _ => a
  | _ => { posonlyargs := [], args := [], vararg := none, kwonlyargs := [], kw_defaults := [], kwarg := none, defaults := [] }
def defBody (s : Stmt) : List Stmt := match s with
  | .FunctionDef _ _ b _ _ _ _ _ _ _ => b
  | _ => []
def defScope (s : Stmt) : Scope := match s with
  | .FunctionDef _ _ _ _ _ _ sc _ _ _ => sc
  | _ => { kind := .function, names := [], isGenerator := false, isCoroutine := false }

/-! ### no exception leaves a def -/
abbrev CX0 : CXT := fun _ _ _ _ _ _ => False
abbrev E0 : XK := fun _ _ _ => False
theorem pass0 {X : Cx} : Passes CX0 X E0 := fun _ _ _ _ _ _ _ h => h.elim

/-! ### a def (or method) of the text as it stands behind the top -/
structure Fun (K : PySem.W.Frag) (x qual : Str) (st : Stmt) (f : Addr) (fd : FuncData) : Prop where
  ex : ∃ (oc : Value) (od : Option Addr) (kV doc pm : Value) (an : Option Addr) (cdv ct : Value) (osl : Array (Option Value)),
    fd = PySem.W.fnOf x qual (defArgs st) (defBody st) (defScope st) .none kV doc pm an cdv ct ∧ K.lookup f = some ⟨oc, od, .func fd, osl⟩ ∧ PySem.W.codeIn K cdv qual = true
  kp : PySem.W.keepIn K (.ref f) = true
section
variable {P : Program} {w : World} {K : PySem.W.Frag} {mg : Str → Option Value} {base : Heap}
/-- THE RULE for a def: its body as a term of rules, and the reading of that term -/
theorem Fun.ok {x qual : Str} {st : Stmt} {f : Addr} {fd : FuncData} {N ps : List Str} {k : Nat} {sp : Sp} (F : Fun K x qual st f fd) (S : FnScope N ps (defScope st)) (len : ∀ vs H Q E, sp vs H Q E → vs.length = ps.length)
    (hbody : ∀ (cdv : Value) (A : Around) (outer : List Env) (s : Shared) (H : Hp) (vs : List V) (Q : VK) (E : XK), Room k (A.deeper (envOfC qual (defScope st) s.heap.objs.size f cdv)) → sp vs H Q E →
      ∃ t, PSs (cxOf CX0 P w K mg base N qual (defScope st) f cdv A outer s H E).nox (defBody st) t ∧ t { nx := fun _ H' => Q .non H', rt := Q } (start N vs) H) : FnOk P w K mg base CX0 (k + 1) f fd ps sp := by
  obtain ⟨oc, od, kV, doc, pm, an, cdv, ct, osl, rfl, lk, hcd⟩ := F.ex
  refine fn_of lk hcd S len fun A outer s H vs Q E hr hsp => ?_
  obtain ⟨t, h, q⟩ := hbody cdv A outer s H vs Q E hr hsp
  exact ⟨t, h.nox, q⟩
/-- how its arguments bind (no defaults): h is «fun _ _ _ _ _ _ us hl => match us, hl with | [_, _], _ => rfl», one _ a parameter -/
theorem Fun.binds {x qual : Str} {st : Stmt} {f : Addr} {fd : FuncData} {ps : List Str} (F : Fun K x qual st f fd)
    (h : ∀ (kV doc pm : Value) (an : Option Addr) (cdv ct : Value) (us : List Value), us.length = ps.length → bindArgs (PySem.W.fnOf x qual (defArgs st) (defBody st) (defScope st) .none kV doc pm an cdv ct) ⟨us, []⟩ = pure (ps.zip us)) : Binds K fd ps [] := by
  obtain ⟨oc, od, kV, doc, pm, an, cdv, ct, osl, rfl, lk, hcd⟩ := F.ex
  exact .all (h kV doc pm an cdv ct)
theorem fun_mk {x qual : Str} {st : Stmt} {f : Addr} {oc : Value} {od an : Option Addr} {osl : Array (Option Value)} {kV doc pm cdv ct : Value} (l : K.lookup f = some ⟨oc, od, .func (PySem.W.fnOf x qual (defArgs st) (defBody st) (defScope st) .none kV doc pm an cdv ct), osl⟩)
    (c : PySem.W.codeIn K cdv qual = true) (k : PySem.W.keepIn K (.ref f) = true) : Fun K x qual st f (PySem.W.fnOf x qual (defArgs st) (defBody st) (defScope st) .none kV doc pm an cdv ct) := ⟨⟨oc, od, kV, doc, pm, an, cdv, ct, osl, rfl, l, c⟩, k⟩
end
theorem hu_of {A : Around} {k : Nat} (hr : Room k A) : A.units + 1 < cLine := Nat.lt_of_le_of_lt (Nat.add_le_add_left (by decide : 1 ≤ 64) _) hr.units
theorem small1000 {n : Nat} (h : n ≤ 1000) : n < sizeLine := Nat.lt_of_le_of_lt h (by decide)

/-! ### expressions in short: the name that stands in the i-th slot -/
section
variable {X : Cx}
theorem pv (i : Nat) {x : Str} {pos : Pos} (hN : X.N[i]? = some x := by rfl) (hv : Vis X.env.scope x := by first | exact Or.inl rfl | exact Or.inr (Or.inl rfl) | exact Or.inr (Or.inr rfl)) (hd : (x == ("__debug__" : Str)) = false := by decide)
    (hcd : (x == ("__classdict__" : Str)) = false := by decide) : PE X (.Name x pos) (tVar i) := pe_var hN hv hd hcd
end

/-! ### tests -/
theorem iteF {A B : Prop} (h : B) : if false = true then A else B := by
  rw [if_neg Bool.false_ne_true]
  exact h
theorem iteT {A B : Prop} (h : A) : if true = true then A else B := by
  rw [if_pos rfl]
  exact h
theorem ite2 {c A B : Prop} [Decidable c] (h1 : c → A) (h2 : ¬ c → B) : if c then A else B := by
  by_cases h : c
  · rw [if_pos h]
    exact h1 h
  · rw [if_neg h]
    exact h2 h
theorem iteNS {c A B : Prop} [Decidable c] (hc : c) (h : B) : if (!decide c) = true then A else B := by
  rw [decide_eq_true hc]
  exact iteF h

/-! ### heaps -/
/-- all that was tracked is as it was -/
def Same (H H' : Hp) : Prop := ∀ b o, H b = some o → H' b = some o
theorem Same.refl (H : Hp) : Same H H := fun _ _ h => h
theorem Same.trans {H H1 H2 : Hp} (a : Same H H1) (b : Same H1 H2) : Same H H2 := fun c o h => b c o (a c o h)
theorem Same.free {H H' : Hp} (e : Same H H') {l : Addr} (h : H' l = Option.none) : H l = Option.none := by
  cases q : H l with
  | none => rfl
  | some o =>
    rw [e l o q] at h
    cases h
theorem Same.seq {K : PySem.W.Frag} {H H' : Hp} {a : Addr} {xs : List V} (e : Same H H') (h : SqL K H a xs) : SqL K H' a xs := by
  rcases h with (h | ⟨o, h⟩) | h
  · exact .inl (.inl (e _ _ h))
  · exact .inl (.inr ⟨o, e _ _ h⟩)
  · exact .inr h

end L2

namespace L2
open PySem PySem.Spec PyProof.Rows

/-! ### lists of pairs as tables -/
section
variable {κ : Type} [DecidableEq κ]
def valV (kvs : List (κ × V)) (k : κ) : Option V := (kvs.find? fun kv => decide (kv.1 = k)).map (·.2)
/-- in its place, or at the end -/
def putK (kvs : List (κ × V)) (k : κ) (v : V) : List (κ × V) :=
  if (kvs.any fun kv => decide (kv.1 = k)) = true then kvs.map (fun kv => if kv.1 = k then (kv.1, v) else kv) else kvs ++ [(k, v)]
def dropK (kvs : List (κ × V)) (k : κ) : List (κ × V) := kvs.filter fun kv => decide (kv.1 ≠ k)

theorem valV_nil {k : κ} : valV ([] : List (κ × V)) k = none := rfl
theorem valV_pos {p : κ × V} {r : List (κ × V)} {k : κ} (e : p.1 = k) : valV (p :: r) k = some p.2 := by simp [valV, List.find?_cons, e]
theorem valV_neg {p : κ × V} {r : List (κ × V)} {k : κ} (e : ¬ p.1 = k) : valV (p :: r) k = valV r k := by simp [valV, List.find?_cons, e]
theorem valV_any (k : κ) : ∀ kvs : List (κ × V), (kvs.any fun kv => decide (kv.1 = k)) = (valV kvs k).isSome
  | [] => rfl
  | p :: r => by
    rw [List.any_cons]
    by_cases e : p.1 = k
    · simp only [valV_pos e, decide_eq_true e, Bool.true_or, Option.isSome_some]
    · rw [valV_neg e, decide_eq_false e, Bool.false_or]; exact valV_any k r
theorem valV_map (k j : κ) (y : V) : ∀ kvs : List (κ × V), valV (kvs.map fun kv => if kv.1 = k then (kv.1, y) else kv) j = (valV kvs j).map fun x => if j = k then y else x
  | [] => rfl
  | p :: r => by
    have ih := valV_map k j y r
    rw [List.map_cons]
    by_cases h : p.1 = k
    · rw [if_pos h]
      by_cases e : p.1 = j
      · rw [valV_pos (p := (p.1, y)) e, valV_pos e, Option.map_some, if_pos (e.symm.trans h)]
      · rw [valV_neg (p := (p.1, y)) e, valV_neg e, ih]
    · rw [if_neg h]
      by_cases e : p.1 = j
      · rw [valV_pos (p := p) e, valV_pos e, Option.map_some, if_neg (fun z => h (e.trans z))]
      · rw [valV_neg (p := p) e, valV_neg e, ih]
theorem valV_snoc (k j : κ) (y : V) : ∀ kvs : List (κ × V), valV kvs k = none → valV (kvs ++ [(k, y)]) j = if j = k then some y else valV kvs j
  | [], _ => by
    by_cases e : k = j
    · rw [if_pos e.symm]; exact valV_pos (p := (k, y)) e
    · rw [if_neg (fun z => e z.symm)]; exact valV_neg (p := (k, y)) e
  | p :: r, hn => by
    rw [List.cons_append]
    have hk : ¬ p.1 = k := fun z => by rw [valV_pos z] at hn; cases hn
    rw [valV_neg hk] at hn
    have ih := valV_snoc k j y r hn
    by_cases e : p.1 = j
    · rw [valV_pos e, valV_pos e, if_neg (fun z => hk (e.trans z))]
    · rw [valV_neg e, valV_neg e, ih]
theorem valV_put (kvs : List (κ × V)) (k j : κ) (y : V) : valV (putK kvs k y) j = if j = k then some y else valV kvs j := by
  unfold putK
  by_cases a : (kvs.any fun kv => decide (kv.1 = k)) = true
  · rw [if_pos a, valV_map]
    rw [valV_any] at a
    by_cases e : j = k
    · obtain ⟨x, hx⟩ := Option.isSome_iff_exists.mp a
      rw [if_pos e, e, hx, Option.map_some, if_pos rfl]
    · rw [if_neg e]
      cases valV kvs j with
      | none => rfl
      | some x => rw [Option.map_some, if_neg e]
  · rw [if_neg a]
    refine valV_snoc k j y kvs ?_
    rw [valV_any] at a
    cases q : valV kvs k with
    | none => rfl
    | some x => rw [q] at a; exact (a rfl).elim
theorem length_putK (kvs : List (κ × V)) (k : κ) (v : V) : (putK kvs k v).length ≤ kvs.length + 1 := by
  unfold putK
  split
  · rw [List.length_map]; omega
  · rw [List.length_append, List.length_cons, List.length_nil]; omega
theorem putK_new {kvs : List (κ × V)} {k : κ} (v : V) (h : valV kvs k = none) : putK kvs k v = kvs ++ [(k, v)] := by
  unfold putK
  rw [valV_any, h]
  exact if_neg (by decide)

theorem RelO.isSome_eq {o : Option V} {u : Option Value} (r : RelO o u) : o.isSome = u.isSome := by
  cases o with
  | none => cases u with
    | none => rfl
    | some _ => exact (show False from r).elim
  | some _ => cases u with
    | none => exact (show False from r).elim
    | some _ => rfl
theorem RelO.getD {o : Option V} {u : Option Value} {d : V} {d' : Value} (r : RelO o u) (rd : RelV d d') : RelV (o.getD d) (u.getD d') := by
  cases o with
  | none => cases u with
    | none => exact rd
    | some _ => exact (show False from r).elim
  | some _ => cases u with
    | none => exact (show False from r).elim
    | some _ => exact r

/-- raw tables of the same keys -/
theorem KV.val {kvs : List (κ × V)} {vs : List (κ × Value)} (r : KV kvs vs) (k : κ) : RelO (valV kvs k) (valueAt vs k) := by
  unfold KV at r
  induction r with
  | nil => exact True.intro
  | @cons p q ps qs h t ih =>
    obtain ⟨h1, h2⟩ := h
    by_cases e : p.1 = k
    · have e' : q.1 = k := h1.symm.trans e
      have b : valueAt (q :: qs) k = some q.2 := by simp [valueAt, List.find?_cons, e']
      rw [valV_pos e, b]; exact h2
    · have e' : ¬ q.1 = k := fun z => e (h1.trans z)
      have b : valueAt (q :: qs) k = valueAt qs k := by simp [valueAt, List.find?_cons, e']
      rw [valV_neg e, b]; exact ih
theorem KV.any {kvs : List (κ × V)} {vs : List (κ × Value)} (r : KV kvs vs) (k : κ) : (kvs.any fun kv => decide (kv.1 = k)) = vs.any fun kv => decide (kv.1 = k) := by
  unfold KV at r
  induction r with
  | nil => rfl
  | cons h t ih => rw [List.any_cons, List.any_cons, ih, h.1]
theorem KV.repl {kvs : List (κ × V)} {vs : List (κ × Value)} (r : KV kvs vs) (k : κ) {y : V} {u : Value} (ry : RelV y u) :
    KV (kvs.map fun kv => if kv.1 = k then (kv.1, y) else kv) (vs.map fun kv => if kv.1 = k then (kv.1, u) else kv) := by
  unfold KV at r ⊢
  induction r with
  | nil => exact .nil
  | @cons p q ps qs h t ih =>
    rw [List.map_cons, List.map_cons]
    refine .cons ?_ ih
    obtain ⟨h1, h2⟩ := h
    by_cases e : p.1 = k
    · rw [if_pos e, if_pos (h1.symm.trans e)]; exact ⟨h1, ry⟩
    · rw [if_neg e, if_neg (fun z => e (h1.trans z))]; exact ⟨h1, h2⟩
theorem KV.put {kvs : List (κ × V)} {vs : List (κ × Value)} (r : KV kvs vs) (k : κ) {y : V} {u : Value} (ry : RelV y u) : KV (putK kvs k y) (stored vs k u) := by
  unfold putK stored
  rw [r.any k]
  by_cases e : (vs.any fun kv => decide (kv.1 = k)) = true
  · rw [if_pos e, if_pos e]; exact r.repl k ry
  · rw [if_neg e, if_neg e]; exact Paired.snoc r ⟨rfl, ry⟩
theorem KV.drop {kvs : List (κ × V)} {vs : List (κ × Value)} (r : KV kvs vs) (k : κ) : KV (dropK kvs k) (without vs k) := by
  unfold KV at r ⊢
  unfold dropK without
  induction r with
  | nil => exact .nil
  | @cons p q ps qs h t ih =>
    obtain ⟨h1, h2⟩ := h
    rw [List.filter_cons, List.filter_cons]
    by_cases e : p.1 = k
    · have a : ¬ decide (p.1 ≠ k) = true := by simp [e]
      have b : ¬ decide (q.1 ≠ k) = true := by simp [h1.symm.trans e]
      rw [if_neg a, if_neg b]; exact ih
    · have e' : ¬ q.1 = k := fun z => e (h1.trans z)
      have a : decide (p.1 ≠ k) = true := by simp [e]
      have b : decide (q.1 ≠ k) = true := by simp [e']
      rw [if_pos a, if_pos b]; exact .cons ⟨h1, h2⟩ ih
theorem KV.keys {kvs : List (κ × V)} {vs : List (κ × Value)} (r : KV kvs vs) : kvs.map (·.1) = vs.map (·.1) := by
  unfold KV at r
  induction r with
  | nil => rfl
  | cons h t ih => rw [List.map_cons, List.map_cons, ih, h.1]
theorem KV.length {kvs : List (κ × V)} {vs : List (κ × Value)} (r : KV kvs vs) : kvs.length = vs.length := Paired.length r
theorem dropK_le (kvs : List (κ × V)) (k : κ) : (dropK kvs k).length ≤ kvs.length := List.length_filter_le _ _
end


/-! ### a tracked dict, its keys ints and texts or tuples of these -/
theorem kV_is {P : Program} {w : World} {k : Key} {u : Value} (r : RelV (kV k) u) : (mixKind P w).is k u = true := by
  cases k with
  | inl i => obtain ⟨t, e⟩ := (show ∃ t, u = Value.int i t from r); subst e; exact mixKind_int P w i t
  | inr x => obtain ⟨t, e⟩ := (show ∃ t, u = Value.str x t from r); subst e; exact mixKind_str P w x t
theorem kV_inj {a b : Key} (e : kV a = kV b) : a = b := by
  cases a with
  | inl i => cases b with
    | inl j => have e' : V.int i = V.int j := e; injection e' with e'; rw [e']
    | inr y => exact nomatch (show V.int i = V.str y from e)
  | inr x => cases b with
    | inl j => exact nomatch (show V.str x = V.int j from e)
    | inr y => have e' : V.str x = V.str y := e; injection e' with e'; rw [e']
theorem kVs_inj : ∀ {a b : List Key}, a.map kV = b.map kV → a = b
  | [], [], _ => rfl
  | [], _ :: _, e => by simp at e
  | _ :: _, [], e => by simp at e
  | x :: xs, y :: ys, e => by
    rw [List.map_cons, List.map_cons] at e
    injection e with e1 e2
    rw [kV_inj e1, kVs_inj e2]
theorem items_are {P : Program} {w : World} : ∀ {ks : List Key} {us : List Value}, Vals (ks.map kV) us → ItemsAre (mixKind P w) ks us
  | [], _, r => by rw [List.map_nil] at r; cases r; exact .nil
  | k :: ks, _, r => by
    rw [List.map_cons] at r
    cases r with
    | cons h t => exact .cons (kV_is h) (items_are t)

/-- raw entries of a dict with tuple keys -/
abbrev KT (H : Hp) : List (List Key × V) → List (List Key × Addr × Value) → Prop := Paired fun p q => p.1 = q.1 ∧ H q.2.1 = some (.tup (p.1.map kV)) ∧ RelV p.2 q.2.2
theorem KT.val {H : Hp} {kvs : List (List Key × V)} {xs : List (List Key × Addr × Value)} (r : KT H kvs xs) (k : List Key) : RelO (valV kvs k) ((atKey xs k).map (·.2)) := by
  induction r with
  | nil => exact True.intro
  | @cons p q ps qs h t ih =>
    obtain ⟨h1, _, h2⟩ := h
    by_cases e : p.1 = k
    · have e' : q.1 = k := h1.symm.trans e
      have b : atKey (q :: qs) k = some q.2 := by simp [atKey, List.find?_cons, e']
      rw [valV_pos e, b]; exact h2
    · have e' : ¬ q.1 = k := fun z => e (h1.trans z)
      have b : atKey (q :: qs) k = atKey qs k := by simp [atKey, List.find?_cons, e']
      rw [valV_neg e, b]; exact ih
theorem KT.repl {H : Hp} {kvs : List (List Key × V)} {xs : List (List Key × Addr × Value)} (r : KT H kvs xs) (k : List Key) {y : V} {u : Value} (ry : RelV y u) :
    KT H (kvs.map fun kv => if kv.1 = k then (kv.1, y) else kv) (xs.map (putAt k u)) := by
  induction r with
  | nil => exact .nil
  | @cons p q ps qs h t ih =>
    rw [List.map_cons, List.map_cons]
    refine .cons ?_ ih
    obtain ⟨h1, h2, h3⟩ := h
    unfold putAt
    by_cases e : p.1 = k
    · rw [if_pos e, if_pos (h1.symm.trans e)]; exact ⟨h1, h2, ry⟩
    · rw [if_neg e, if_neg (fun z => e (h1.trans z))]; exact ⟨h1, h2, h3⟩
theorem KT.put {H : Hp} {kvs : List (List Key × V)} {xs : List (List Key × Addr × Value)} (r : KT H kvs xs) (k : List Key) {b : Addr} {y : V} {u : Value} (hb : H b = some (.tup (k.map kV))) (ry : RelV y u) :
    KT H (putK kvs k y) (storedH xs k b u) := by
  have e : (kvs.any fun kv => decide (kv.1 = k)) = (atKey xs k).isSome := by
    rw [valV_any, (r.val k).isSome_eq, Option.isSome_map]
  unfold putK storedH
  rw [e]
  by_cases q : (atKey xs k).isSome = true
  · rw [if_pos q, if_pos q]; exact r.repl k ry
  · rw [if_neg q, if_neg q]; exact Paired.snoc r ⟨rfl, hb, ry⟩
theorem KT.keeps {H H' : Hp} {kvs : List (List Key × V)} {xs : List (List Key × Addr × Value)} (r : KT H kvs xs) (ht : ∀ b ys, H b = some (.tup ys) → H' b = some (.tup ys)) : KT H' kvs xs :=
  Paired.mapP r fun _ _ z => ⟨z.1, ht _ _ z.2.1, z.2.2⟩

section
variable {P : Program} {w : World} {H : Hp} {h : Heap} {a : Addr}
theorem rd_of {u : HO} (ok : HOk P w H h) (e : Rd H a u) : ObjOk P w H h a u := e.ok ok
theorem dk_rd {kvs : List (Key × V)} (ok : HOk P w H h) (e : Rd H a (.dK kvs)) : kvs.length ≤ sizeLine ∧ (a == sysModules) = false ∧ ∃ vs, KV kvs vs ∧ h.DictOf (mixKind P w) a vs :=
  show ObjOk P w H h a (.dK kvs) from rd_of ok e
theorem dk_of {kvs : List (Key × V)} (ok : HOk P w H h) (e : H a = some (.dK kvs)) : kvs.length ≤ sizeLine ∧ (a == sysModules) = false ∧ ∃ vs, KV kvs vs ∧ h.DictOf (mixKind P w) a vs := dk_rd ok (.inl e)
/-- a tracked tuple of ints and texts is a key -/
theorem key_of {ks : List Key} (ok : HOk P w H h) (e : H a = some (.tup (ks.map kV))) : (tupleKind (mixKind P w)).is h ks a := by
  obtain ⟨_, its, r, o, h1, h2, n, h3⟩ := (show ObjOk P w H h a (.tup (ks.map kV)) from ok a _ e)
  exact ⟨o, its.toArray, n, h1, h2, h3, by simpa using items_are r⟩
theorem dt_rd {kvs : List (List Key × V)} (ok : HOk P w H h) (e : Rd H a (.dT kvs)) : kvs.length ≤ sizeLine ∧ (a == sysModules) = false ∧
    ∃ xs, KT H kvs xs ∧ h.DictOfH (tupleKind (mixKind P w)) a xs := by
  obtain ⟨z, y, xs, r, o, es, ep, h1, h2, h3, h4, h5⟩ := (show ObjOk P w H h a (.dT kvs) from rd_of ok e)
  refine ⟨z, y, xs, r, o, es, ep, h1, h2, h3, h4, fun x hx => ?_, h5⟩
  have all : ∀ {l : List (List Key × V)} {m : List (List Key × Addr × Value)}, KT H l m → ∀ x ∈ m, (tupleKind (mixKind P w)).is h x.1 x.2.1 := by
    intro l m q
    induction q with
    | nil => intro x hx; exact nomatch hx
    | @cons p q ps qs hq t ih =>
      intro x hx
      rcases List.mem_cons.mp hx with e | hx
      · subst e
        exact key_of ok (by rw [← hq.1]; exact hq.2.1)
      · exact ih x hx
  exact all r x hx
theorem dt_of {kvs : List (List Key × V)} (ok : HOk P w H h) (e : H a = some (.dT kvs)) : kvs.length ≤ sizeLine ∧ (a == sysModules) = false ∧
    ∃ xs, KT H kvs xs ∧ h.DictOfH (tupleKind (mixKind P w)) a xs := dt_rd ok (.inl e)
end

/-- what the dict at a holds at the key y -/
def DGet (H : Hp) (a : Addr) (y : V) (r : Option V) : Prop :=
  (∃ kvs k, Rd H a (.dK kvs) ∧ y = kV k ∧ r = valV kvs k) ∨ ∃ kvs k b, Rd H a (.dT kvs) ∧ y = .ref b ∧ H b = some (.tup (k.map kV)) ∧ r = valV kvs k
/-- the heap behind a[y] = v -/
def DPut (H : Hp) (a : Addr) (y v : V) (H' : Hp) : Prop :=
  (∃ kvs k, H a = some (.dK kvs) ∧ y = kV k ∧ kvs.length < sizeLine ∧ H' = upd H a (.dK (putK kvs k v))) ∨
  ∃ kvs k b, H a = some (.dT kvs) ∧ y = .ref b ∧ H b = some (.tup (k.map kV)) ∧ kvs.length < sizeLine ∧ H' = upd H a (.dT (putK kvs k v))
theorem DGet.k {H : Hp} {a : Addr} {kvs : List (Key × V)} {k : Key} (e : H a = some (.dK kvs)) : DGet H a (kV k) (valV kvs k) := .inl ⟨kvs, k, .inl e, rfl, rfl⟩
theorem DGet.t {H : Hp} {a b : Addr} {kvs : List (List Key × V)} {k : List Key} (e : H a = some (.dT kvs)) (eb : H b = some (.tup (k.map kV))) : DGet H a (.ref b) (valV kvs k) := .inr ⟨kvs, k, b, .inl e, rfl, eb, rfl⟩
theorem DPut.k {H : Hp} {a : Addr} {kvs : List (Key × V)} {k : Key} {v : V} (e : H a = some (.dK kvs)) (hl : kvs.length < sizeLine) : DPut H a (kV k) v (upd H a (.dK (putK kvs k v))) := .inl ⟨kvs, k, e, rfl, hl, rfl⟩
theorem DPut.t {H : Hp} {a b : Addr} {kvs : List (List Key × V)} {k : List Key} {v : V} (e : H a = some (.dT kvs)) (eb : H b = some (.tup (k.map kV))) (hl : kvs.length < sizeLine) :
    DPut H a (.ref b) v (upd H a (.dT (putK kvs k v))) := .inr ⟨kvs, k, b, e, rfl, eb, hl, rfl⟩


section
variable {X : Cx} {pins : List (Addr × Obj)} {σ : St} {H : Hp} {s : Shared} {a : Addr} {y v : V} {u r : Value} {o : Option V} {A : Around} {E : Value → Shared → Prop}

theorem Inv.big (I : Inv X pins σ H s) : sysModules < s.heap.objs.size := by
  have h : mainGlobals < s.heap.objs.size := (I.mod.glob.keeps I.bk).lt
  exact Nat.lt_trans (by decide) h

/-- d[y], there -/
theorem d_getItem {Q : Value → Shared → Prop} (hu : A.units + 1 < cLine) (I : Inv X pins σ H s) (g : DGet H a y (some v)) (ry : RelV y u) (h : ∀ w' s', Inv X pins σ H s' → RelV v w' → Q w' s') :
    wpAny (model X.prog X.w) A (getItem (.ref a) u) Q E s := by
  rcases g with ⟨kvs, k, e, ey, l⟩ | ⟨kvs, k, b, e, ey, eb, l⟩
  · subst ey
    obtain ⟨z, hd, vs, rel, dd⟩ := dk_rd I.hok e
    obtain ⟨w', hw, rw'⟩ := RelO.some_of (v := v) (o := valueAt vs k) (by rw [l]; exact rel.val k)
    exact wpAny_getItem_of (kV_is ry) dd.mapOf hw (h w' _ (I.tok _) rw')
  · subst ey
    cases (show u = Value.ref b from ry)
    obtain ⟨z, hd, xs, rel, dd⟩ := dt_rd I.hok e
    obtain ⟨w', hw, rw'⟩ := RelO.some_of (v := v) (o := (atKey xs k).map (·.2)) (by rw [l]; exact rel.val k)
    obtain ⟨p, hp, hp2⟩ := Option.map_eq_some_iff.mp hw
    refine wpAny_getItem_heap (tupleKind_room_in1 hu) (key_of I.hok eb) dd hp ?_
    rw [hp2]
    exact h w' _ (I.tok _) rw'
/-- y in d -/
theorem d_in {Q : Value → Shared → Prop} (hu : A.units + 1 < cLine) (I : Inv X pins σ H s) (g : DGet H a y o) (ry : RelV y u) (h : ∀ s', Inv X pins σ H s' → Q (.bool o.isSome) s') :
    wpAny (model X.prog X.w) A (compareOp .In u (.ref a)) Q E s := by
  rcases g with ⟨kvs, k, e, ey, l⟩ | ⟨kvs, k, b, e, ey, eb, l⟩
  · subst ey
    obtain ⟨z, hd, vs, rel, dd⟩ := dk_rd I.hok e
    refine wpAny_in_of (kV_is ry) hd dd.mapOf ?_
    rw [← (rel.val k).isSome_eq, ← l]
    exact h _ (I.tok _)
  · subst ey
    cases (show u = Value.ref b from ry)
    obtain ⟨z, hd, xs, rel, dd⟩ := dt_rd I.hok e
    refine wpAny_in_heap (tupleKind_room_in1 hu) (key_of I.hok eb) hd dd ?_
    have q := (rel.val k).isSome_eq
    rw [Option.isSome_map] at q
    rw [← q, ← l]
    exact h _ (I.tok _)
theorem d_notIn {Q : Value → Shared → Prop} (hu : A.units + 1 < cLine) (I : Inv X pins σ H s) (g : DGet H a y o) (ry : RelV y u) (h : ∀ s', Inv X pins σ H s' → Q (.bool (!o.isSome)) s') :
    wpAny (model X.prog X.w) A (compareOp .NotIn u (.ref a)) Q E s := by
  rcases g with ⟨kvs, k, e, ey, l⟩ | ⟨kvs, k, b, e, ey, eb, l⟩
  · subst ey
    obtain ⟨z, hd, vs, rel, dd⟩ := dk_rd I.hok e
    refine wpAny_notIn_of (kV_is ry) hd dd.mapOf ?_
    rw [← (rel.val k).isSome_eq, ← l]
    exact h _ (I.tok _)
  · subst ey
    cases (show u = Value.ref b from ry)
    obtain ⟨z, hd, xs, rel, dd⟩ := dt_rd I.hok e
    refine wpAny_notIn_heap (tupleKind_room_in1 hu) (key_of I.hok eb) hd dd ?_
    have q := (rel.val k).isSome_eq
    rw [Option.isSome_map] at q
    rw [← q, ← l]
    exact h _ (I.tok _)
/-- a dict's object is replaced -/
theorem d_write {h' : Heap} {t' : Nat} {ob : HO} (I : Inv X pins σ H s) (mu : Mut (H a)) (hs : Heap.SameBut a s.heap h') (he : ∃ q, h'.get? a = some q) (new : ObjOk X.prog X.w (upd H a ob) h' a ob) :
    Inv X pins σ (upd H a ob) { s with heap := h', toks := t' } :=
  I.write (x := a) (e := a) mu (.inl rfl) (fun b q hb z => (hs.2 b hb).trans z) he new
theorem dk_new {P : Program} {w : World} {H' : Hp} {h' : Heap} {kvs : List (Key × V)} {vs : List (Key × Value)} (z : kvs.length ≤ sizeLine) (hd : (a == sysModules) = false) (rel : KV kvs vs) (dd : h'.DictOf (mixKind P w) a vs) :
    ObjOk P w H' h' a (.dK kvs) := ⟨z, hd, vs, rel, dd⟩
/-- d[y] = v -/
theorem d_setItem {H' : Hp} {Q : Unit → Shared → Prop} (hu : A.units + 1 < cLine) (I : Inv X pins σ H s) (g : DPut H a y v H') (ry : RelV y u) (rv : RelV v r) (h : ∀ s', Inv X pins σ H' s' → Q () s') :
    wpAny (model X.prog X.w) A (setItem (.ref a) u r) Q E s := by
  rcases g with ⟨kvs, k, e, ey, l, eH⟩ | ⟨kvs, k, b, e, ey, eb, l, eH⟩
  · subst ey eH
    obtain ⟨z, hd, vs, rel, dd⟩ := dk_of I.hok e
    have hz : vs.length ≤ sizeLine := by rw [← rel.length]; exact z
    have hl : (putK kvs k v).length ≤ sizeLine := by have := length_putK kvs k v; omega
    refine wpAny_setItem_pairs (hsz := hz) (kV_is ry) dd fun h' dd' hs => h _ ?_
    have he : ∃ q, h'.get? a = some q := let ⟨q, _, _, hq, _⟩ := dd'; ⟨q, hq⟩
    exact d_write I (by rw [e]; exact True.intro) hs he (dk_new hl hd (rel.put k rv) dd')
  · subst ey eH
    cases (show u = Value.ref b from ry)
    obtain ⟨z, hd, xs, rel, dd⟩ := dt_of I.hok e
    have hz : xs.length ≤ sizeLine := by rw [← Paired.length rel]; exact z
    have hl : (putK kvs k v).length ≤ sizeLine := by have := length_putK kvs k v; omega
    refine wpAny_setItem_heap (hsz := hz) (tupleKind_room_in1 hu) (key_of I.hok eb) dd fun h' dd' hs => h _ ?_
    obtain ⟨q, es, ep, hq, h2, h3, h4, _, h5⟩ := dd'
    refine d_write I (by rw [e]; exact True.intro) hs ⟨q, hq⟩ ⟨hl, hd, _, (rel.put k eb rv).keeps fun c ys ec => ?_, q, es, ep, hq, h2, h3, h4, h5⟩
    rw [upd_ne (ne_of ec e (fun z => nomatch z))]
    exact ec
end

section
variable {X : Cx} {pins : List (Addr × Obj)} {σ : St} {H : Hp} {s : Shared} {a : Addr} {kvs : List (Key × V)} {k : Key} {u : Value} {A : Around} {E : Value → Shared → Prop}
/-- del d[k] -/
theorem d_delItem {Q : Unit → Shared → Prop} (I : Inv X pins σ H s) (e : H a = some (.dK kvs)) (ry : RelV (kV k) u) (l : (valV kvs k).isSome = true) (h : ∀ s', Inv X pins σ (upd H a (.dK (dropK kvs k))) s' → Q () s') :
    wpAny (model X.prog X.w) A (delItem (.ref a) u) Q E s := by
  obtain ⟨z, hd, vs, rel, dd⟩ := dk_of I.hok e
  refine wpAny_delItem_slot dd.typeIs (by decide) PySem.F.slot_dict_delitem
    (call_meetsIn PySem.F.slot_dict_delitem dd.typeIs PySem.F.entry_dict_delitem (PySem.F.args_dict_delitem_2 _ _) (meets_dict_delitem_pairs (mixKind X.prog X.w) a (kV_is ry)) ⟨vs, dd, by rw [← rel.length]; exact z, by rw [← (rel.val k).isSome_eq]; exact l, fun h' dd' hs => h _ ?_⟩)
  have he : ∃ q, h'.get? a = some q := let ⟨q, _, _, hq, _⟩ := dd'; ⟨q, hq⟩
  exact d_write I (by rw [e]; exact True.intro) hs he (dk_new (Nat.le_trans (dropK_le kvs k) z) hd (rel.drop k) dd')
/-- d.pop(k[, x]), there -/
theorem d_pop {v : V} {more : List Value} {Q : Value → Shared → Prop} (I : Inv X pins σ H s) (e : H a = some (.dK kvs)) (ry : RelV (kV k) u) (l : valV kvs k = some v) (hm : more = [] ∨ ∃ x, more = [x])
    (h : ∀ w' s', Inv X pins σ (upd H a (.dK (dropK kvs k))) s' → RelV v w' → Q w' s') : wpAny (model X.prog X.w) A (call (.builtin "dict.pop") (.ref a :: u :: more)) Q E s := by
  obtain ⟨z, hd, vs, rel, dd⟩ := dk_of I.hok e
  obtain ⟨w', hw, rw'⟩ := RelO.some_of (v := v) (o := valueAt vs k) (by rw [← l]; exact rel.val k)
  have hp : (keyPart u).isSome = true := by
    cases k with
    | inl i => obtain ⟨t, q⟩ := (show ∃ t, u = Value.int i t from ry); subst q; rfl
    | inr x => obtain ⟨t, q⟩ := (show ∃ t, u = Value.str x t from ry); subst q; rfl
  have ha : argsOk "dict.pop" ⟨.ref a :: u :: more, []⟩ := by
    rcases hm with q | ⟨x, q⟩
    · subst q; exact PySem.F.args_dict_pop_2 _ _
    · subst q; exact PySem.F.args_dict_pop_3 _ _ _
  refine call_meetsIn PySem.F.slot_dict_pop dd.typeIs PySem.F.entry_dict_pop ha (meets_dict_pop_there (mixKind X.prog X.w) a (kV_is ry) more hm hp)
    ⟨vs, w', dd, by rw [← rel.length]; exact z, hw, fun h' dd' hs => h w' _ ?_ rw'⟩
  have he : ∃ q, h'.get? a = some q := let ⟨q, _, _, hq, _⟩ := dd'; ⟨q, hq⟩
  exact d_write I (by rw [e]; exact True.intro) hs he (dk_new (Nat.le_trans (dropK_le kvs k) z) hd (rel.drop k) dd')
/-- d.pop(k, x), not there -/
theorem d_popD {r : Value} {Q : Value → Shared → Prop} (I : Inv X pins σ H s) (e : H a = some (.dK kvs)) (ry : RelV (kV k) u) (l : valV kvs k = none) (h : ∀ s', Inv X pins σ H s' → Q r s') :
    wpAny (model X.prog X.w) A (call (.builtin "dict.pop") [.ref a, u, r]) Q E s := by
  obtain ⟨z, hd, vs, rel, dd⟩ := dk_of I.hok e
  have hn : valueAt vs k = none := RelO.none_of (by rw [← l]; exact rel.val k)
  have hp : (keyPart u).isSome = true := by
    cases k with
    | inl i => obtain ⟨t, q⟩ := (show ∃ t, u = Value.int i t from ry); subst q; rfl
    | inr x => obtain ⟨t, q⟩ := (show ∃ t, u = Value.str x t from ry); subst q; rfl
  exact call_meetsIn PySem.F.slot_dict_pop dd.typeIs PySem.F.entry_dict_pop (PySem.F.args_dict_pop_3 _ _ _) (meets_dict_pop_default (mixKind X.prog X.w) a (kV_is ry) hd hp r) ⟨vs, dd, hn, h _ (I.tok _)⟩
/-- d.clear() -/
theorem d_clear {Q : Value → Shared → Prop} (I : Inv X pins σ H s) (e : H a = some (.dK kvs)) (h : ∀ s', Inv X pins σ (upd H a (.dK [])) s' → Q .none s') : wpAny (model X.prog X.w) A (call (.builtin "dict.clear") [.ref a]) Q E s := by
  obtain ⟨z, hd, vs, rel, dd⟩ := dk_of I.hok e
  refine call_meetsIn PySem.F.slot_dict_clear dd.typeIs PySem.F.entry_dict_clear (PySem.F.args_dict_clear_1 _) (meets_dict_clear (mixKind X.prog X.w) a) ⟨vs, dd, by rw [← rel.length]; exact z, fun h' dd' hs => h _ ?_⟩
  have he : ∃ q, h'.get? a = some q := let ⟨q, _, _, hq, _⟩ := dd'; ⟨q, hq⟩
  exact d_write (t' := s.toks) I (by rw [e]; exact True.intro) hs he (dk_new (Nat.zero_le _) hd .nil dd')
/-- len(d) -/
theorem d_len {Q : Value → Shared → Prop} (I : Inv X pins σ H s) (e : Rd H a (.dK kvs)) (h : ∀ t s', Inv X pins σ H s' → Q (.int kvs.length t) s') : wpAny (model X.prog X.w) A (call (.builtin "len") [.ref a]) Q E s := by
  obtain ⟨z, hd, vs, rel, dd⟩ := dk_rd I.hok e
  refine call_len_dict hd dd (by rw [← rel.length]; rw [sizeLine_eq] at z; omega) ?_
  rw [← rel.length]
  exact h _ _ (I.tok _)
/-- if d -/
theorem d_truth {Q : Bool → Shared → Prop} (I : Inv X pins σ H s) (e : Rd H a (.dK kvs)) (h : ∀ s', Inv X pins σ H s' → Q (!kvs.isEmpty) s') : wpAny (model X.prog X.w) A (truthy (.ref a)) Q E s := by
  obtain ⟨z, hd, vs, rel, dd⟩ := dk_rd I.hok e
  refine wpAny_truthy_dict hd dd (by rw [← rel.length]; rw [sizeLine_eq] at z; omega) ?_
  have q : kvs.isEmpty = vs.isEmpty := by cases rel <;> rfl
  rw [← q]
  exact h _ (I.tok _)
end


/-! ### readings and rules -/
/-- the element of a subscription, not a slice -/
def NoSl (i : Expr) : Prop := ∀ ov iv, subscripted i false ov iv = operate [ov, iv] (getItem ov iv)
theorem subD_of {prog : Program} {w : World} {A : Around} {E : Value → Shared → Prop} {s : Shared} {env : Env} {value slice : Expr} {pos : Pos} {T id : String} {Q : Value → Shared → Prop}
    (hl : typeLookup (.type T) "__getitem__" = pure (some (.builtin id))) (hs : NoSl slice)
    (h : wpAny (model prog w) A (eval value env) (fun o s₁ => wpAny (model prog w) A (eval slice env) (fun i s₂ => s₂.TypeIs o T ∧ wpAny (model prog w) A (getItem o i) Q E s₂) E s₁) E s) :
    wpAny (model prog w) A (eval (.Subscript value slice pos) env) Q E s := by
  refine Subscript_ (wpAny_mono h (fun o s₁ h₁ => wpAny_mono h₁ (fun i s₂ h₂ => ?_) fun _ _ x => x) fun _ _ x => x)
  obtain ⟨hT, h₂⟩ := h₂
  unfold subscriptTail
  refine wpAny_bind ?_
  rw [getitemInPython_of_ne hT.not_modules]
  refine wpAny_bind (wpAny_specialOf hT hl ?_)
  have fin : wpAny (model prog w) A (subscripted slice false o i) (fun r s₃ => wpAny (model prog w) A (letTemporaryGo value o r >>= fun _ => pure r) Q E s₃) E s₂ := by
    rw [hs o i]
    exact wpAny_operating (wpAny_mono h₂ (fun r s₃ h₃ => wpAny_bind (wpAny_letTemporaryGo (wpAny_pure h₃))) fun _ _ x => x)
  first
    | exact wpAny_pure (wpAny_bind fin)
    | exact wpAny_bind (wpAny_pure (wpAny_bind fin))
    | exact wpAny_bind fin

theorem dict_typeIs {X : Cx} {pins : List (Addr × Obj)} {σ : St} {H : Hp} {s : Shared} {a : Addr} {y : V} {o : Option V} (I : Inv X pins σ H s) (g : DGet H a y o) : s.TypeIs (.ref a) "dict" := by
  rcases g with ⟨kvs, k, e, _, _⟩ | ⟨kvs, k, b, e, _, _, _⟩
  · obtain ⟨_, _, vs, _, dd⟩ := dk_rd I.hok e
    exact dd.typeIs
  · obtain ⟨_, _, xs, _, dd⟩ := dt_rd I.hok e
    exact dd.typeIs
theorem dict_noDict {X : Cx} {pins : List (Addr × Obj)} {σ : St} {H : Hp} {s : Shared} {a : Addr} {y : V} {o : Option V} (I : Inv X pins σ H s) (g : DGet H a y o) :
    ∀ b, Value.ref a = .ref b → ∃ ob, s.heap.get? b = some ob ∧ ob.dict = none := fun b q => by
  cases q
  rcases g with ⟨kvs, k, e, _, _⟩ | ⟨kvs, k, b, e, _, _, _⟩
  · obtain ⟨_, _, vs, _, ob, _, _, h1, h2, _⟩ := dk_rd I.hok e
    exact ⟨ob, h1, h2.2.1⟩
  · obtain ⟨_, _, xs, _, ob, _, _, h1, h2, _⟩ := dt_rd I.hok e
    exact ⟨ob, h1, h2.2.1⟩

/-- d[y] -/
def tDGet (td ty : TE) : TE := fun σ H Q => td σ H fun x H1 => ty σ H1 fun y H2 => ∃ a v, x = .ref a ∧ DGet H2 a y (some v) ∧ Q v H2
/-- y in d, y not in d -/
def tDIn (ty td : TE) : TE := fun σ H Q => ty σ H fun y H1 => td σ H1 fun x H2 => ∃ a o, x = .ref a ∧ DGet H2 a y o ∧ Q (.bl o.isSome) H2
def tDNotIn (ty td : TE) : TE := fun σ H Q => ty σ H fun y H1 => td σ H1 fun x H2 => ∃ a o, x = .ref a ∧ DGet H2 a y o ∧ Q (.bl (!o.isSome)) H2
/-- d[y] = v -/
def sDPut (td ty tv : TE) : TS := fun D σ H => tv σ H fun v H1 => td σ H1 fun x H2 => ty σ H2 fun y H3 => ∃ a H4, x = .ref a ∧ DPut H3 a y v H4 ∧ D.nx σ H4
/-- d[y] op= v -/
def sDAug (td ty tv : TE) (rd : V → V → Hp → VK → Prop) : TS := fun D σ H => td σ H fun x H1 => ty σ H1 fun y H2 => ∃ a v, x = .ref a ∧ DGet H2 a y (some v) ∧
  tv σ H2 fun y2 H3 => rd v y2 H3 fun z H4 => ∃ H5, DPut H4 a y z H5 ∧ D.nx σ H5
/-- del d[y] -/
def sDDel (td ty : TE) : TS := fun D σ H => td σ H fun x H1 => ty σ H1 fun y H2 => ∃ a kvs k, x = .ref a ∧ H2 a = some (.dK kvs) ∧ y = kV k ∧ (valV kvs k).isSome = true ∧ D.nx σ (upd H2 a (.dK (dropK kvs k)))

section
variable {X : Cx} {o i e value : Expr} {pos pos' tpos : Pos} {td ty tv : TE}
theorem pe_dget (hu : X.A.units + 1 < cLine) (ho : PE X o td) (hi : PE X i ty) (hs : NoSl i) : PE X (.Subscript o i pos) (tDGet td ty) := by
  intro pins s σ H Q I h
  refine subD_of PySem.F.slot_dict_getitem.lookup hs (thn (ho pins s σ H _ I h) fun u s1 ⟨x, H1, I1, rx, q1⟩ => thn (hi pins s1 σ H1 _ I1 q1) fun iv s2 ⟨y, H2, I2, ry, a, v, ex, g, q2⟩ => ?_)
  subst ex
  obtain rfl : u = Value.ref a := rx
  exact ⟨dict_typeIs I2 g, d_getItem hu I2 g ry fun w' s3 I3 rw' => ⟨v, H2, I3, rw', q2⟩⟩
theorem pc_din (hu : X.A.units + 1 < cLine) (hi : PE X i ty) (ho : PE X o td) : PC X .In i o (tDIn ty td) := by
  intro pins s σ H Q I h
  refine thn (hi pins s σ H _ I h) fun iv s1 ⟨y, H1, I1, ry, q1⟩ => thn (ho pins s1 σ H1 _ I1 q1) fun u s2 ⟨x, H2, I2, rx, a, ov, ex, g, q2⟩ => ?_
  subst ex
  obtain rfl : u = Value.ref a := rx
  exact d_in hu I2 g ry fun s3 I3 => ⟨.bl ov.isSome, H2, I3, rfl, q2⟩
theorem pc_dnotin (hu : X.A.units + 1 < cLine) (hi : PE X i ty) (ho : PE X o td) : PC X .NotIn i o (tDNotIn ty td) := by
  intro pins s σ H Q I h
  refine thn (hi pins s σ H _ I h) fun iv s1 ⟨y, H1, I1, ry, q1⟩ => thn (ho pins s1 σ H1 _ I1 q1) fun u s2 ⟨x, H2, I2, rx, a, ov, ex, g, q2⟩ => ?_
  subst ex
  obtain rfl : u = Value.ref a := rx
  exact d_notIn hu I2 g ry fun s3 I3 => ⟨.bl (!ov.isSome), H2, I3, rfl, q2⟩
theorem ps_dput (hu : X.A.units + 1 < cLine) (ho : PE X o td) (hi : PE X i ty) (hv : PE X value tv) (hs : swapsWith value (some (.Subscript o i pos')) pos.line X.env = pure false) :
    PS X (.Assign [.Subscript o i pos'] value pos) (sDPut td ty tv) := by
  intro pins s σ H D I h
  refine wpAny_Assign_Subscript (thn (hv pins s σ H _ I h) fun r s1 ⟨v, H1, I1, rv, q1⟩ => thn (ho pins s1 σ H1 _ I1 q1) fun u s2 ⟨x, H2, I2, rx, q2⟩ => thn (hi pins s2 σ H2 _ I2 q2) fun iv s3 ⟨y, H3, I3, ry, a, H4, ex, g, q3⟩ => ?_) hs
  subst ex
  obtain rfl : u = Value.ref a := rx
  exact d_setItem hu I3 g ry rv fun s4 I4 => ⟨σ, H4, I4, q3⟩
theorem ps_daug {op : Operator} {rd : V → V → Hp → VK → Prop} (hu : X.A.units + 1 < cLine) (ho : PE X o td) (hi : PE X i ty) (hv : PE X value tv) (hop : InOp X op rd)
    (ha : ∀ ov iv new, augStore i ov iv new = (do holding [new, ov, iv] (setItem ov iv new); release [new, ov, iv] []; pure .next)) : PS X (.AugAssign (.Subscript o i tpos) op value pos) (sDAug td ty tv rd) := by
  intro pins s σ H D I h
  refine wpAny_AugAssign_SubscriptAny (thn (ho pins s σ H _ I h) fun u s1 ⟨x, H1, I1, rx, q1⟩ => thn (hi pins s1 σ H1 _ I1 q1) fun iv s2 ⟨y, H2, I2, ry, a, v, ex, g, q2⟩ => ?_) ha
  subst ex
  obtain rfl : u = Value.ref a := rx
  refine d_getItem hu I2 g ry fun w' s3 I3 rw' => thn (hv pins s3 σ H2 _ I3 q2) fun w2 s4 ⟨y2, H3, I4, ry2, q3⟩ => thn (hop pins s4 σ H3 v y2 w' w2 _ I4 rw' ry2 q3) fun w3 s5 ⟨z, H4, I5, rz, H5, g5, q4⟩ => ?_
  exact d_setItem hu I5 g5 ry rz fun s6 I6 => ⟨σ, H5, I6, q4⟩
theorem ps_ddel (ho : PE X o td) (hi : PE X i ty) : PS X (.Delete [.Subscript o i tpos] pos) (sDDel td ty) := by
  intro pins s σ H D I h
  refine wpAny_Delete (wpAny_deleteEach_cons (wpAny_delete_Subscript (thn (ho pins s σ H _ I h) fun u s1 ⟨x, H1, I1, rx, q1⟩ => thn (hi pins s1 σ H1 _ I1 q1) fun iv s2 ⟨y, H2, I2, ry, a, kvs, k, ex, e, ey, l, q2⟩ => ?_)))
  subst ex ey
  obtain rfl : u = Value.ref a := rx
  exact d_delItem I2 e ry l fun s3 I3 => wpAny_deleteEach_nil ⟨σ, _, I3, q2⟩
end


/-! ### displays -/
theorem dk_empty {P : Program} {w : World} {H : Hp} (h : Heap) (hb : sysModules < h.objs.size) : ObjOk P w H (h.push { cls := .type "dict", data := .dict #[] }) h.objs.size (.dK []) :=
  ⟨Nat.zero_le _, beq_eq_false_iff_ne.mpr (Ne.symm (Nat.ne_of_lt hb)), [], .nil, Heap.DictOf.new h⟩
theorem dt_empty {P : Program} {w : World} {H : Hp} (h : Heap) (hb : sysModules < h.objs.size) : ObjOk P w H (h.push { cls := .type "dict", data := .dict #[] }) h.objs.size (.dT []) :=
  ⟨Nat.zero_le _, beq_eq_false_iff_ne.mpr (Ne.symm (Nat.ne_of_lt hb)), [], .nil, _, #[], 0, Heap.get?_push_size _ rfl, ⟨rfl, rfl, rfl⟩, rfl, rfl, List.nodup_nil⟩
/-- {}, to be a dict of the kind that is wanted -/
def tDNewK : TE := fun _ H Q => ∀ p, H p = none → Q (.ref p) (upd H p (.dK []))
def tDNewT : TE := fun _ H Q => ∀ p, H p = none → Q (.ref p) (upd H p (.dT []))
section
variable {X : Cx} {pos : Pos}
theorem pe_dnewK : PE X (.Dict [] [] pos) tDNewK := fun pins s σ H Q I h =>
  wpAny_Dict_empty ⟨.ref s.heap.objs.size, _, I.laid (a := s.heap.objs.size) (o := .dK []) (t' := s.toks) (fun _ _ q => Heap.get?_push_of_some _ q) (Nat.le_refl _) (dk_empty s.heap I.big), rfl, h _ (I.hok.fresh (Nat.le_refl _))⟩
theorem pe_dnewT : PE X (.Dict [] [] pos) tDNewT := fun pins s σ H Q I h =>
  wpAny_Dict_empty ⟨.ref s.heap.objs.size, _, I.laid (a := s.heap.objs.size) (o := .dT []) (t' := s.toks) (fun _ _ q => Heap.get?_push_of_some _ q) (Nat.le_refl _) (dt_empty s.heap I.big), rfl, h _ (I.hok.fresh (Nat.le_refl _))⟩
end

/-- the pairs of a display, from the left -/
def tPairs : List (TE × TE) → St → Hp → (List (V × V) → Hp → Prop) → Prop
  | [], _, H, Q => Q [] H
  | (tk, tv) :: r, σ, H, Q => tk σ H fun x H1 => tv σ H1 fun y H2 => tPairs r σ H2 fun ps H3 => Q ((x, y) :: ps) H3
abbrev VV : List (V × V) → List (Value × Value) → Prop := Paired fun p q => RelV p.1 q.1 ∧ RelV p.2 q.2
def PPs (X : Cx) (pos : Pos) (keys : List (Option Expr)) (values : List Expr) (trs : List (TE × TE)) : Prop :=
  ∀ (pins : List (Addr × Obj)) (s : Shared) (σ : St) (H : Hp) (Q : List (V × V) → Hp → Prop), Inv X pins σ H s → tPairs trs σ H Q →
    wpAny (model X.prog X.w) X.A (evalPairs (pairTrees keys values X.env pos)) (fun vs s' => ∃ ps H', Inv X pins σ H' s' ∧ VV ps vs ∧ Q ps H') X.xe s
theorem pps_nil {X : Cx} {pos : Pos} : PPs X pos [] [] [] := fun pins s σ H Q I h => pairTrees_nil_walk ⟨[], H, I, .nil, h⟩
theorem pps_cons {X : Cx} {pos : Pos} {k v : Expr} {ks : List (Option Expr)} {vs : List Expr} {tk tv : TE} {trs : List (TE × TE)} (hk : PE X k tk) (hv : PE X v tv) (hr : PPs X pos ks vs trs) :
    PPs X pos (some k :: ks) (v :: vs) ((tk, tv) :: trs) := fun pins s σ H Q I h =>
  pairTrees_cons_walk (thn (hk pins s σ H _ I h) fun u s1 ⟨x, H1, I1, rx, q1⟩ => thn (hv pins s1 σ H1 _ I1 q1) fun w2 s2 ⟨y, H2, I2, ry, q2⟩ =>
    thn (hr pins s2 σ H2 _ I2 q2) fun ws s3 ⟨ps, H3, I3, rel, q3⟩ => ⟨(x, y) :: ps, H3, I3, .cons ⟨rx, ry⟩ rel, q3⟩)

def mergeK (kvs more : List (Key × V)) : List (Key × V) := more.foldl (fun acc kv => putK acc kv.1 kv.2) kvs
theorem KV.merge : ∀ {more : List (Key × V)} {rs : List (Key × Value)} {kvs : List (Key × V)} {vs : List (Key × Value)}, KV more rs → KV kvs vs → KV (mergeK kvs more) (merged vs rs) := by
  intro more rs kvs vs r
  unfold KV at r
  induction r generalizing kvs vs with
  | nil => intro q; exact q
  | @cons p q ps qs h t ih =>
    intro r0
    have e : KV (putK kvs p.1 p.2) (stored vs q.1 q.2) := by
      have := r0.put p.1 h.2
      rw [← h.1]; exact this
    exact ih e
theorem length_mergeK : ∀ (more kvs : List (Key × V)), (mergeK kvs more).length ≤ kvs.length + more.length
  | [], kvs => by show kvs.length ≤ kvs.length + 0; omega
  | p :: r, kvs => by
    have h1 := length_mergeK r (putK kvs p.1 p.2)
    have h2 := length_putK kvs p.1 p.2
    show (mergeK (putK kvs p.1 p.2) r).length ≤ _
    rw [List.length_cons]; omega
theorem carries_of {P : Program} {w : World} : ∀ {kvs : List (Key × V)} {ws : List (Value × Value)}, VV (kvs.map fun kv => (kV kv.1, kv.2)) ws → ∃ rs, Carries (mixKind P w) ws rs ∧ KV kvs rs
  | [], _, r => by rw [List.map_nil] at r; cases r; exact ⟨[], True.intro, .nil⟩
  | p :: kvs, _, r => by
    rw [List.map_cons] at r
    cases r with
    | @cons a b as bs h t =>
      obtain ⟨rs, c, q⟩ := carries_of (P := P) (w := w) t
      obtain ⟨b1, b2⟩ := b
      exact ⟨(p.1, b2) :: rs, ⟨kV_is h.1, rfl, c⟩, .cons ⟨rfl, h.2⟩ q⟩
/-- {k: v, ..} with keys ints and texts; the new dict stands empty while the pairs are made -/
def tDisp (trs : List (TE × TE)) : TE := fun σ H Q => ∀ p, H p = none → tPairs trs σ (upd H p (.dK [])) fun ps H2 => H2 p = some (.dK []) ∧ ∃ kvs : List (Key × V), ps = kvs.map (fun kv => (kV kv.1, kv.2)) ∧ kvs.length ≤ 15 ∧ Q (.ref p) (upd H2 p (.dK (mergeK [] kvs)))
theorem pe_disp {X : Cx} {pos : Pos} {keys : List (Option Expr)} {values : List Expr} {trs : List (TE × TE)} (h : PPs X pos keys values trs) (hall : keys.all (·.isSome) = true) (hl : keys.length = values.length) (h0 : keys ≠ [])
    (h15 : keys.length ≤ 15) : PE X (.Dict keys values pos) (tDisp trs) := by
  intro pins s σ H Q I q
  have hn := I.hok.fresh (Nat.le_refl s.heap.objs.size)
  have I1 := I.laid (a := s.heap.objs.size) (o := .dK []) (h' := s.heap.push { cls := .type "dict", data := .dict #[] }) (t' := s.toks) (fun _ _ q => Heap.get?_push_of_some _ q) (Nat.le_refl _) (dk_empty s.heap I.big)
  refine wpAny_Dict_walk (knd := mixKind X.prog X.w) hall hl h0 h15 (thn (h pins _ σ _ _ I1 (q _ hn)) fun ws s2 ⟨ps, H2, I2, rel, e, kvs, ep, lk, q2⟩ => ?_)
  subst ep
  obtain ⟨rs, c, rk⟩ := carries_of (P := X.prog) (w := X.w) rel
  obtain ⟨z, hd, vs0, r0, dd⟩ := dk_of I2.hok e
  cases r0
  refine ⟨rs, c, dd, fun h' dd' hs => ⟨.ref s.heap.objs.size, _, ?_, rfl, q2⟩⟩
  have hz : (mergeK [] kvs).length ≤ sizeLine := by
    have h1 := length_mergeK kvs []
    rw [List.length_nil] at h1
    rw [sizeLine_eq]; omega
  have he : ∃ q, h'.get? s.heap.objs.size = some q := let ⟨q, _, _, hq, _⟩ := dd'; ⟨q, hq⟩
  exact d_write I2 (by rw [e]; exact True.intro) hs he (dk_new hz hd (rk.merge .nil) dd')


/-! ### methods -/
/-- a method call o.m(e) of a built-in, with one argument: what must be seen of the text -/
structure M1 (X : Cx) (o : Expr) (m : Str) (apos : Pos) (e : Expr) (cpos : Pos) : Prop where
  base : attributeBase o m X.env (eval o X.env) = eval o X.env
  few : ((backTo cpos (starEach [e] X.env)).all (fun x => !x.1) && (backToKw cpos (keywordEach [] X.env)).all (fun x => x.1.isSome)
    && decide (([e] : List Expr).length + ([] : List Keyword).length + (if ([] : List Keyword).isEmpty then 0 else 1) < 30)) = true
  line : (apos.endLine == cpos.line) = true
  trees : backTo cpos (starEach [e] X.env) = [(false, eval e X.env)]
structure M2 (X : Cx) (o : Expr) (m : Str) (apos : Pos) (e f : Expr) (cpos : Pos) : Prop where
  base : attributeBase o m X.env (eval o X.env) = eval o X.env
  few : ((backTo cpos (starEach [e, f] X.env)).all (fun x => !x.1) && (backToKw cpos (keywordEach [] X.env)).all (fun x => x.1.isSome)
    && decide (([e, f] : List Expr).length + ([] : List Keyword).length + (if ([] : List Keyword).isEmpty then 0 else 1) < 30)) = true
  line : (apos.endLine == cpos.line) = true
  trees : backTo cpos (starEach [e, f] X.env) = [(false, eval e X.env), (false, eval f X.env)]

/-- a is a dict, whatever its keys -/
def IsD (H : Hp) (a : Addr) : Prop := (∃ kvs, Rd H a (.dK kvs)) ∨ ∃ kvs, Rd H a (.dT kvs)
theorem isD_at {X : Cx} {pins : List (Addr × Obj)} {σ : St} {H : Hp} {s : Shared} {a : Addr} (I : Inv X pins σ H s) (d : IsD H a) :
    s.TypeIs (.ref a) "dict" ∧ (∀ b, Value.ref a = .ref b → ∃ ob, s.heap.get? b = some ob ∧ ob.dict = none) ∧ (a == sysModules) = false := by
  rcases d with ⟨kvs, e⟩ | ⟨kvs, e⟩
  · obtain ⟨_, hd, vs, _, dd⟩ := dk_rd I.hok e
    refine ⟨dd.typeIs, fun b q => ?_, hd⟩
    cases q
    obtain ⟨ob, _, _, h1, h2, _⟩ := dd
    exact ⟨ob, h1, h2.2.1⟩
  · obtain ⟨_, hd, xs, _, dd⟩ := dt_rd I.hok e
    refine ⟨dd.typeIs, fun b q => ?_, hd⟩
    cases q
    obtain ⟨ob, _, _, h1, h2, _⟩ := dd
    exact ⟨ob, h1, h2.2.1⟩

section
variable {X : Cx} {pins : List (Addr × Obj)} {σ : St} {H : Hp} {s : Shared} {a : Addr} {y d : V} {u r : Value} {o : Option V} {A : Around} {E : Value → Shared → Prop}
/-- d.get(y) -/
theorem d_get1 {Q : Value → Shared → Prop} (hu : A.units + 1 < cLine) (I : Inv X pins σ H s) (g : DGet H a y o) (ry : RelV y u) (h : ∀ w' s', Inv X pins σ H s' → RelV (o.getD .non) w' → Q w' s') :
    wpAny (model X.prog X.w) A (call (.builtin "dict.get") [.ref a, u]) Q E s := by
  rcases g with ⟨kvs, k, e, ey, l⟩ | ⟨kvs, k, b, e, ey, eb, l⟩
  · subst ey
    obtain ⟨z, hd, vs, rel, dd⟩ := dk_rd I.hok e
    refine call_meetsIn PySem.F.slot_dict_get dd.typeIs PySem.F.entry_dict_get (PySem.F.args_dict_get_2 _ _) (meets_dict_get (mixKind X.prog X.w) a (kV_is ry) hd) ⟨_, dd.mapOf, h _ _ (I.tok _) ?_⟩
    rw [l]
    exact (rel.val k).getD rfl
  · subst ey
    cases (show u = Value.ref b from ry)
    obtain ⟨z, hd, xs, rel, dd⟩ := dt_rd I.hok e
    refine call_meetsIn PySem.F.slot_dict_get dd.typeIs PySem.F.entry_dict_get (PySem.F.args_dict_get_2 _ _) (meetsH_dict_get (tupleKind (mixKind X.prog X.w)) a b hd) ⟨tupleKind_room_in1 hu, k, xs, key_of I.hok eb, dd, h _ _ (I.tok _) ?_⟩
    rw [l]
    exact (rel.val k).getD rfl
/-- d.get(y, x) -/
theorem d_get2 {Q : Value → Shared → Prop} (hu : A.units + 1 < cLine) (I : Inv X pins σ H s) (g : DGet H a y o) (ry : RelV y u) (rd : RelV d r) (h : ∀ w' s', Inv X pins σ H s' → RelV (o.getD d) w' → Q w' s') :
    wpAny (model X.prog X.w) A (call (.builtin "dict.get") [.ref a, u, r]) Q E s := by
  rcases g with ⟨kvs, k, e, ey, l⟩ | ⟨kvs, k, b, e, ey, eb, l⟩
  · subst ey
    obtain ⟨z, hd, vs, rel, dd⟩ := dk_rd I.hok e
    refine call_meetsIn PySem.F.slot_dict_get dd.typeIs PySem.F.entry_dict_get (PySem.F.args_dict_get_3 _ _ _) (meets_dict_get_default (mixKind X.prog X.w) a (kV_is ry) hd r) ⟨_, dd.mapOf, h _ _ (I.tok _) ?_⟩
    rw [l]
    exact (rel.val k).getD rd
  · subst ey
    cases (show u = Value.ref b from ry)
    obtain ⟨z, hd, xs, rel, dd⟩ := dt_rd I.hok e
    refine call_meetsIn PySem.F.slot_dict_get dd.typeIs PySem.F.entry_dict_get (PySem.F.args_dict_get_3 _ _ _) (meetsH_dict_get_default (tupleKind (mixKind X.prog X.w)) a b hd r) ⟨tupleKind_room_in1 hu, k, xs, key_of I.hok eb, dd, h _ _ (I.tok _) ?_⟩
    rw [l]
    exact (rel.val k).getD rd
end

def tDGet1 (td ty : TE) : TE := fun σ H Q => td σ H fun x H1 => ∃ a, x = .ref a ∧ IsD H1 a ∧ ty σ H1 fun y H2 => ∃ o, DGet H2 a y o ∧ Q (o.getD .non) H2
def tDGet2 (td ty tx : TE) : TE := fun σ H Q => td σ H fun x H1 => ∃ a, x = .ref a ∧ IsD H1 a ∧ ty σ H1 fun y H2 => tx σ H2 fun z H3 => ∃ o, DGet H3 a y o ∧ Q (o.getD z) H3
/-- d.pop(k): there; d.pop(k, x): there or not -/
def tDPop1 (td ty : TE) : TE := fun σ H Q => td σ H fun x H1 => ∃ a, x = .ref a ∧ IsD H1 a ∧ ty σ H1 fun y H2 => ∃ kvs k v, H2 a = some (.dK kvs) ∧ y = kV k ∧ valV kvs k = some v ∧ Q v (upd H2 a (.dK (dropK kvs k)))
def tDPop2 (td ty tx : TE) : TE := fun σ H Q => td σ H fun x H1 => ∃ a, x = .ref a ∧ IsD H1 a ∧ ty σ H1 fun y H2 => tx σ H2 fun z H3 => ∃ kvs k, H3 a = some (.dK kvs) ∧ y = kV k ∧
  (∀ v, valV kvs k = some v → Q v (upd H3 a (.dK (dropK kvs k)))) ∧ (valV kvs k = none → Q z H3)
section
variable {X : Cx} {o e f : Expr} {apos cpos : Pos} {td ty tx : TE}
theorem pe_dget1 (hu : X.A.units + 1 < cLine) (ho : PE X o td) (he : PE X e ty) (m : M1 X o "get" apos e cpos) : PE X (.Call (.Attribute o "get" apos) [e] [] cpos) (tDGet1 td ty) := by
  intro pins s σ H Q I h
  refine wpAny_Call_method m.base m.few m.line PySem.F.plainAttrs_dict PySem.F.slot_dict_get PySem.F.type_dict_get (thn (ho pins s σ H _ I h) fun u s1 ⟨x, H1, I1, rx, a, ex, d, q1⟩ => ?_)
  subst ex
  obtain rfl : u = Value.ref a := rx
  obtain ⟨t1, t2, _⟩ := isD_at I1 d
  refine ⟨t1, t2, ?_⟩
  rw [m.trees]
  refine Calls.callWith_builtin rfl (Calls.evalArgs_plain (Calls.spliced_cons (thn (he pins s1 σ H1 _ I1 q1) fun iv s2 ⟨y, H2, I2, ry, ov, g, q2⟩ => Calls.spliced_nil ?_)))
  exact d_get1 hu I2 g ry fun w' s3 I3 rw' => ⟨_, H2, I3, rw', q2⟩
theorem pe_dget2 (hu : X.A.units + 1 < cLine) (ho : PE X o td) (he : PE X e ty) (hf : PE X f tx) (m : M2 X o "get" apos e f cpos) : PE X (.Call (.Attribute o "get" apos) [e, f] [] cpos) (tDGet2 td ty tx) := by
  intro pins s σ H Q I h
  refine wpAny_Call_method m.base m.few m.line PySem.F.plainAttrs_dict PySem.F.slot_dict_get PySem.F.type_dict_get (thn (ho pins s σ H _ I h) fun u s1 ⟨x, H1, I1, rx, a, ex, d, q1⟩ => ?_)
  subst ex
  obtain rfl : u = Value.ref a := rx
  obtain ⟨t1, t2, _⟩ := isD_at I1 d
  refine ⟨t1, t2, ?_⟩
  rw [m.trees]
  refine Calls.callWith_builtin rfl (Calls.evalArgs_plain (Calls.spliced_cons (thn (he pins s1 σ H1 _ I1 q1) fun iv s2 ⟨y, H2, I2, ry, q2⟩ =>
    Calls.spliced_cons (thn (hf pins s2 σ H2 _ I2 q2) fun fv s3 ⟨z, H3, I3, rz, ov, g, q3⟩ => Calls.spliced_nil ?_))))
  exact d_get2 hu I3 g ry rz fun w' s4 I4 rw' => ⟨_, H3, I4, rw', q3⟩
theorem pe_dpop1 (ho : PE X o td) (he : PE X e ty) (m : M1 X o "pop" apos e cpos) : PE X (.Call (.Attribute o "pop" apos) [e] [] cpos) (tDPop1 td ty) := by
  intro pins s σ H Q I h
  refine wpAny_Call_method m.base m.few m.line PySem.F.plainAttrs_dict PySem.F.slot_dict_pop PySem.F.type_dict_pop (thn (ho pins s σ H _ I h) fun u s1 ⟨x, H1, I1, rx, a, ex, d, q1⟩ => ?_)
  subst ex
  obtain rfl : u = Value.ref a := rx
  obtain ⟨t1, t2, _⟩ := isD_at I1 d
  refine ⟨t1, t2, ?_⟩
  rw [m.trees]
  refine Calls.callWith_builtin rfl (Calls.evalArgs_plain (Calls.spliced_cons (thn (he pins s1 σ H1 _ I1 q1) fun iv s2 ⟨y, H2, I2, ry, kvs, k, v, ea, ey, l, q2⟩ => Calls.spliced_nil ?_)))
  subst ey
  exact d_pop I2 ea ry l (.inl rfl) fun w' s3 I3 rw' => ⟨v, _, I3, rw', q2⟩
theorem pe_dpop2 (ho : PE X o td) (he : PE X e ty) (hf : PE X f tx) (m : M2 X o "pop" apos e f cpos) : PE X (.Call (.Attribute o "pop" apos) [e, f] [] cpos) (tDPop2 td ty tx) := by
  intro pins s σ H Q I h
  refine wpAny_Call_method m.base m.few m.line PySem.F.plainAttrs_dict PySem.F.slot_dict_pop PySem.F.type_dict_pop (thn (ho pins s σ H _ I h) fun u s1 ⟨x, H1, I1, rx, a, ex, d, q1⟩ => ?_)
  subst ex
  obtain rfl : u = Value.ref a := rx
  obtain ⟨t1, t2, _⟩ := isD_at I1 d
  refine ⟨t1, t2, ?_⟩
  rw [m.trees]
  refine Calls.callWith_builtin rfl (Calls.evalArgs_plain (Calls.spliced_cons (thn (he pins s1 σ H1 _ I1 q1) fun iv s2 ⟨y, H2, I2, ry, q2⟩ =>
    Calls.spliced_cons (thn (hf pins s2 σ H2 _ I2 q2) fun fv s3 ⟨z, H3, I3, rz, kvs, k, ea, ey, q3, q4⟩ => Calls.spliced_nil ?_))))
  subst ey
  cases l : valV kvs k with
  | some v => exact d_pop I3 ea ry l (.inr ⟨fv, rfl⟩) fun w' s4 I4 rw' => ⟨v, _, I4, rw', q3 v l⟩
  | none => exact d_popD I3 ea ry l fun s4 I4 => ⟨z, H3, I4, rz, q4 l⟩
end

/-! ### dict(d): a copy -/
section
variable {X : Cx} {pins : List (Addr × Obj)} {σ : St} {H : Hp} {s : Shared} {a : Addr} {kvs : List (Key × V)} {A : Around} {E : Value → Shared → Prop}
theorem d_copyOf {Q : Value → Shared → Prop} (I : Inv X pins σ H s) (e : Rd H a (.dK kvs)) (h : ∀ p s', H p = none → Inv X pins σ (upd H p (.dK kvs)) s' → Q (.ref p) s') : wpAny (model X.prog X.w) A (call (.type "dict") [.ref a]) Q E s := by
  obtain ⟨z, hd, vs, rel, dd⟩ := dk_rd I.hok e
  refine kt_call_dict hd dd (by rw [← rel.length]; exact z) fun h' dd' hs => ?_
  refine h _ _ (I.hok.fresh (Nat.le_refl _)) (I.laid (a := s.heap.objs.size) (o := .dK kvs) (t' := s.toks) (fun b q hq => ?_) (Nat.le_refl _) (dk_new z (beq_eq_false_iff_ne.mpr (Ne.symm (Nat.ne_of_lt I.big))) rel dd'))
  exact (hs.2 b (Nat.ne_of_lt (Heap.lt_size hq))).trans (Heap.get?_push_of_some _ hq)
end


section
variable {X : Cx} {pins : List (Addr × Obj)} {σ : St} {H : Hp} {s : Shared} {a : Addr} {y : V} {u : Value} {A : Around} {E : Value → Shared → Prop}
/-- d[y], not there: a KeyError -/
theorem d_missing {Q : Value → Shared → Prop} (hu : A.units + 1 < cLine) (hh : A.handled = none) (I : Inv X pins σ H s) (g : DGet H a y none) (ry : RelV y u)
    (h : ∀ h' e t', Heap.NewExc s.heap h' e "KeyError" → E (.ref e) { s with heap := h', toks := t' }) : wpAny (model X.prog X.w) A (getItem (.ref a) u) Q E s := by
  rcases g with ⟨kvs, k, e, ey, l⟩ | ⟨kvs, k, b, e, ey, eb, l⟩
  · subst ey
    obtain ⟨z, hd, vs, rel, dd⟩ := dk_rd I.hok e
    have hn : valueAt vs k = none := RelO.none_of (by rw [l]; exact rel.val k)
    exact wpAny_getItem_missing_of (kV_is ry) hd hh dd.mapOf hn fun h' ex ne => h h' ex _ ne
  · subst ey
    cases (show u = Value.ref b from ry)
    obtain ⟨z, hd, xs, rel, dd⟩ := dt_rd I.hok e
    have hn : (atKey xs k).map (·.2) = none := RelO.none_of (by rw [l]; exact rel.val k)
    exact wpAny_getItem_missing_heap (tupleKind_room_in1 hu) (key_of I.hok eb) hd hh dd (Option.map_eq_none_iff.mp hn) fun h' ex ne => h h' ex _ ne
end
end L2
namespace L2
open PySem PySem.Spec PyProof.Rows
section
variable {X : Cx}
/-- len of a dict -/
theorem call_lenD : CallR X (.builtin "len") (fun xs H Q => ∃ a kvs, xs = [V.ref a] ∧ H a = some (.dK kvs) ∧ Q (.int kvs.length) H) := by
  intro pins s σ H xs us Q I r h
  obtain ⟨a, kvs, rfl, ha, q⟩ := h
  obtain ⟨u, rfl, ru⟩ := vals1 r
  cases ru
  exact d_len I (.inl ha) fun t s' I' => ⟨.int kvs.length, H, I', ⟨t, rfl⟩, q⟩
end
/-! ### a dict's pairs: keys that differ -/
section
variable {κ : Type} [DecidableEq κ]
theorem valV_not {kvs : List (κ × V)} {k : κ} (h : valV kvs k = none) : ¬ k ∈ kvs.map (·.1) := by
  intro m
  obtain ⟨p, hp, e⟩ := List.mem_map.mp m
  have q : (kvs.any fun kv => decide (kv.1 = k)) = true := List.any_eq_true.mpr ⟨p, hp, decide_eq_true e⟩
  rw [valV_any, h] at q
  exact absurd q (by simp)
theorem valV_in {kvs : List (κ × V)} {k : κ} {v : V} (h : valV kvs k = some v) : k ∈ kvs.map (·.1) := by
  have q : (kvs.any fun kv => decide (kv.1 = k)) = true := by
    rw [valV_any, h]
    all_goals rfl
  obtain ⟨p, hp, e⟩ := List.any_eq_true.mp q
  exact List.mem_map.mpr ⟨p, hp, of_decide_eq_true e⟩
theorem nd_snoc : ∀ {l : List κ} {k : κ}, l.Nodup → ¬ k ∈ l → (l ++ [k]).Nodup
  | [], k, _, _ => by simp
  | a :: r, k, h, hk => by
    obtain ⟨h1, h2⟩ := List.nodup_cons.mp h
    show (a :: (r ++ [k])).Nodup
    refine List.nodup_cons.mpr ⟨fun m => ?_, nd_snoc h2 fun m => hk (List.mem_cons.mpr (Or.inr m))⟩
    rcases List.mem_append.mp m with q | q
    · exact h1 q
    · exact hk (List.mem_cons.mpr (Or.inl (List.mem_singleton.mp q).symm))
theorem nd_putK {kvs : List (κ × V)} {k : κ} (v : V) (hn : (kvs.map (·.1)).Nodup) (h : valV kvs k = none) : ((putK kvs k v).map (·.1)).Nodup := by
  rw [putK_new v h, List.map_append]
  exact nd_snoc hn (valV_not h)
theorem dropK_pos {p : κ × V} {r : List (κ × V)} {k : κ} (e : p.1 = k) : dropK (p :: r) k = dropK r k := by
  unfold dropK
  rw [List.filter_cons, if_neg (by simp [e])]
theorem dropK_neg {p : κ × V} {r : List (κ × V)} {k : κ} (e : ¬ p.1 = k) : dropK (p :: r) k = p :: dropK r k := by
  unfold dropK
  rw [List.filter_cons, if_pos (by simp [e])]
theorem dropK_no : ∀ {kvs : List (κ × V)} {k : κ}, ¬ k ∈ kvs.map (·.1) → dropK kvs k = kvs
  | [], _, _ => rfl
  | p :: r, k, h => by
    have h' : ¬ k ∈ r.map (·.1) := fun m => by
      obtain ⟨q, hq, e⟩ := List.mem_map.mp m
      exact h (List.mem_map.mpr ⟨q, List.mem_cons.mpr (Or.inr hq), e⟩)
    rw [dropK_neg fun e => h (List.mem_map.mpr ⟨p, List.mem_cons.mpr (Or.inl rfl), e⟩), dropK_no h']
theorem dropK_mem {kvs : List (κ × V)} {k : κ} {p : κ × V} (h : p ∈ dropK kvs k) : p ∈ kvs := (List.mem_filter.mp h).1
theorem nd_dropK : ∀ {kvs : List (κ × V)} {k : κ}, (kvs.map (·.1)).Nodup → ((dropK kvs k).map (·.1)).Nodup
  | [], _, _ => List.nodup_nil
  | p :: r, k, h => by
    have h : (p.1 :: r.map (·.1)).Nodup := h
    obtain ⟨h1, h2⟩ := List.nodup_cons.mp h
    by_cases e : p.1 = k
    · rw [dropK_pos e]
      exact nd_dropK h2
    · rw [dropK_neg e]
      show (p.1 :: (dropK r k).map (·.1)).Nodup
      refine List.nodup_cons.mpr ⟨fun m => h1 ?_, nd_dropK h2⟩
      obtain ⟨q, hq, eq⟩ := List.mem_map.mp m
      exact List.mem_map.mpr ⟨q, dropK_mem hq, eq⟩
theorem dropK_len : ∀ {kvs : List (κ × V)} {k : κ}, (kvs.map (·.1)).Nodup → k ∈ kvs.map (·.1) → (dropK kvs k).length + 1 = kvs.length
  | [], _, _, m => by simp at m
  | p :: r, k, h, m => by
    have h : (p.1 :: r.map (·.1)).Nodup := h
    have m : k = p.1 ∨ k ∈ r.map (·.1) := List.mem_cons.mp m
    obtain ⟨h1, h2⟩ := List.nodup_cons.mp h
    by_cases e : p.1 = k
    · subst e
      rw [dropK_pos rfl, dropK_no h1]
      all_goals rfl
    · have m' : k ∈ r.map (·.1) := m.resolve_left fun z => e z.symm
      have q := dropK_len h2 m'
      rw [dropK_neg e, List.length_cons, List.length_cons]
      omega
end
end L2

set_option Elab.async false
set_option linter.all false
set_option maxRecDepth 100000
namespace L2
open PySem PySem.Spec PyProof.Rows

/-! ### comprehensions: the block's cells -/
def clOf (cells : List (Str × Addr)) : List (Str × NameKind) → List (Str × Addr) → List (Str × Addr)
  | [], acc => acc
  | (n, k) :: r, acc => if k == .free then clOf cells r ((n, (cells.lookup n).getD 0) :: acc) else clOf cells r acc

theorem clOf_run (env : Env) : ∀ (names : List (Str × NameKind)) (acc : List (Str × Addr)), (∀ y ∈ names, y.2 = .free → ∃ c, env.cells.lookup y.1 = some c) →
    (forIn names acc fun (x : Str × NameKind) (cs : List (Str × Addr)) =>
      match x with
      | (name, kind) => if (kind == .free) = true then (do let c ← cellOf env name; pure (ForInStep.yield ((name, c) :: cs))) else pure (ForInStep.yield cs)) = (pure (clOf env.cells names acc) : Sem _)
  | [], acc, _ => rfl
  | (n, k) :: r, acc, h => by
    rw [List.forIn_cons]
    by_cases hk : (k == NameKind.free) = true
    · obtain ⟨c, hc⟩ := h (n, k) List.mem_cons_self (eq_of_beq hk)
      have e : cellOf env n = pure c := by unfold cellOf; rw [show env.cells.lookup n = some c from hc]
      simp only [hk, if_true, e, clOf]
      rw [show env.cells.lookup n = some c from hc]
      simp only [pure_bind, Option.getD_some]
      exact clOf_run env r _ fun y hy => h y (List.mem_cons_of_mem _ hy)
    · simp only [hk, if_false, clOf, pure_bind]
      exact clOf_run env r _ fun y hy => h y (List.mem_cons_of_mem _ hy)
theorem closure_of {scope : Scope} {env : Env} (h : ∀ y ∈ scope.names, y.2 = .free → ∃ c, env.cells.lookup y.1 = some c) : closureFor scope env = pure (clOf env.cells scope.names []) := by
  have e := clOf_run env scope.names [] h
  simp only [closureFor]
  simp only [bind_pure_comp, map_pure] at e ⊢
  first | exact e | (rw [e]; rfl) | (simp only [e]; rfl)

theorem clOf_fwd {cells : List (Str × Addr)} {x : Str} {c : Addr} : ∀ {names : List (Str × NameKind)} {acc : List (Str × Addr)}, (∀ y ∈ names, y.2 = .free → ∃ c, cells.lookup y.1 = some c) → (∀ z, acc.lookup x = some z → cells.lookup x = some z) →
    (clOf cells names acc).lookup x = some c → cells.lookup x = some c
  | [], acc, _, ha, h => ha c h
  | (n, k) :: r, acc, hf, ha, h => by
    unfold clOf at h
    by_cases hk : (k == NameKind.free) = true
    · rw [if_pos hk] at h
      refine clOf_fwd (fun y hy => hf y (List.mem_cons_of_mem _ hy)) (fun z hz => ?_) h
      rw [List.lookup_cons] at hz
      split at hz
      · rename_i q
        have e : x = n := eq_of_beq q
        subst e
        obtain ⟨d, hd⟩ := hf (x, k) List.mem_cons_self (eq_of_beq hk)
        have hd' : cells.lookup x = some d := hd
        rw [hd'] at hz ⊢
        exact hz
      · exact ha z hz
    · rw [if_neg hk] at h
      exact clOf_fwd (fun y hy => hf y (List.mem_cons_of_mem _ hy)) ha h
theorem clOf_acc {cells : List (Str × Addr)} {x : Str} {c : Addr} (hc : cells.lookup x = some c) : ∀ {names : List (Str × NameKind)} {acc : List (Str × Addr)}, ((x, NameKind.free) ∈ names ∨ acc.lookup x = some c) →
    (clOf cells names acc).lookup x = some c
  | [], acc, h => by
    rcases h with h | h
    · cases h
    · exact h
  | (n, k) :: r, acc, h => by
    unfold clOf
    by_cases hk : (k == NameKind.free) = true
    · rw [if_pos hk]
      refine clOf_acc hc ?_
      by_cases hn : x = n
      · subst hn
        right
        rw [List.lookup_cons]
        simp [hc]
      · rcases h with h | h
        · rcases List.mem_cons.mp h with h | h
          · injection h with h1 _; exact absurd h1 hn
          · exact .inl h
        · right
          rw [List.lookup_cons]
          have : (x == n) = false := beq_eq_false_iff_ne.mpr hn
          rw [this]
          exact h
    · rw [if_neg hk]
      refine clOf_acc hc ?_
      rcases h with h | h
      · rcases List.mem_cons.mp h with h | h
        · injection h with _ h2; subst h2; exact absurd rfl hk
        · exact .inl h
      · exact .inr h
theorem relabel_free {env : Env} {x : Str} : ∀ {names : List (Str × NameKind)}, (∀ y ∈ names, y.2 ≠ .cell) →
    ((names.map fun (n, k) => if (k == NameKind.free && env.scope.kind == .function && env.kindOf n == some .cell) = true then (n, NameKind.cell) else (n, k)).lookup x = some .cell ∨
      (names.map fun (n, k) => if (k == NameKind.free && env.scope.kind == .function && env.kindOf n == some .cell) = true then (n, NameKind.cell) else (n, k)).lookup x = some .free) → (x, NameKind.free) ∈ names
  | [], _, h => by rcases h with h | h <;> cases h
  | (n, k) :: r, hn, h => by
    have ih := @relabel_free env x r fun y hy => hn y (List.mem_cons_of_mem _ hy)
    rw [List.map_cons] at h
    cases hx : x == n with
    | true =>
      have e : x = n := eq_of_beq hx
      subst e
      by_cases hc : (k == NameKind.free && env.scope.kind == .function && env.kindOf x == some .cell) = true
      · have hk : (k == NameKind.free) = true := by
          rw [Bool.and_eq_true, Bool.and_eq_true] at hc
          exact hc.1.1
        have hk' : k = .free := eq_of_beq hk
        subst hk'
        exact List.mem_cons_self
      · have hc' : (if (k == NameKind.free && env.scope.kind == .function && env.kindOf x == some .cell) = true then (x, NameKind.cell) else (x, k)) = (x, k) := if_neg hc
        simp only [hc', List.lookup_cons, beq_self_eq_true] at h
        have hk : k = .cell ∨ k = .free := by
          rcases h with h | h
          · exact .inl (Option.some.inj h)
          · exact .inr (Option.some.inj h)
        rcases hk with hk | hk
        · exact absurd hk (hn (x, k) List.mem_cons_self)
        · subst hk; exact List.mem_cons_self
    | false =>
      refine List.mem_cons_of_mem _ (ih ?_)
      by_cases hc : (k == NameKind.free && env.scope.kind == .function && env.kindOf n == some .cell) = true
      · have hc' : (if (k == NameKind.free && env.scope.kind == .function && env.kindOf n == some .cell) = true then (n, NameKind.cell) else (n, k)) = (n, NameKind.cell) := if_pos hc
        simp only [hc', List.lookup_cons, hx] at h
        exact h
      · have hc' : (if (k == NameKind.free && env.scope.kind == .function && env.kindOf n == some .cell) = true then (n, NameKind.cell) else (n, k)) = (n, k) := if_neg hc
        simp only [hc', List.lookup_cons, hx] at h
        exact h
theorem relabel_lookup_free {env : Env} {x : Str} : ∀ {names : List (Str × NameKind)}, names.lookup x = some .free →
    (names.map fun (n, k) => if (k == NameKind.free && env.scope.kind == .function && env.kindOf n == some .cell) = true then (n, NameKind.cell) else (n, k)).lookup x = some .cell ∨
      (names.map fun (n, k) => if (k == NameKind.free && env.scope.kind == .function && env.kindOf n == some .cell) = true then (n, NameKind.cell) else (n, k)).lookup x = some .free
  | [], h => by cases h
  | (n, k) :: r, h => by
    have ih := @relabel_lookup_free env x r
    rw [List.map_cons]
    rw [List.lookup_cons] at h
    cases hx : x == n with
    | true =>
      rw [hx] at h
      have hk : k = .free := Option.some.inj h
      subst hk
      by_cases hc : (NameKind.free == NameKind.free && env.scope.kind == .function && env.kindOf n == some .cell) = true
      · have hc' : (if (NameKind.free == NameKind.free && env.scope.kind == .function && env.kindOf n == some .cell) = true then (n, NameKind.cell) else (n, NameKind.free)) = (n, NameKind.cell) := if_pos hc
        simp only [hc', List.lookup_cons, hx]
        exact .inl trivial
      · have hc' : (if (NameKind.free == NameKind.free && env.scope.kind == .function && env.kindOf n == some .cell) = true then (n, NameKind.cell) else (n, NameKind.free)) = (n, NameKind.free) := if_neg hc
        simp only [hc', List.lookup_cons, hx]
        exact .inr trivial
    | false =>
      rw [hx] at h
      have q := ih h
      by_cases hc : (k == NameKind.free && env.scope.kind == .function && env.kindOf n == some .cell) = true
      · have hc' : (if (k == NameKind.free && env.scope.kind == .function && env.kindOf n == some .cell) = true then (n, NameKind.cell) else (n, k)) = (n, NameKind.cell) := if_pos hc
        simp only [hc', List.lookup_cons, hx]
        exact q
      · have hc' : (if (k == NameKind.free && env.scope.kind == .function && env.kindOf n == some .cell) = true then (n, NameKind.cell) else (n, k)) = (n, k) := if_neg hc
        simp only [hc', List.lookup_cons, hx]
        exact q
theorem mem_of_lookup_free {x : Str} {k : NameKind} : ∀ {names : List (Str × NameKind)}, names.lookup x = some k → (x, k) ∈ names := fun h => PySem.mem_of_lookup h

/-! ### the block's context -/
def Cx.comp (X : Cx) (scope : Scope) (cl : List (Str × Addr)) (C : Addr) (s₀ : Shared) (H₀ : Hp) (fp : List Addr) (N' : List Str) : Cx :=
  { prog := X.prog, w := X.w, K := X.K, mg := X.mg, base := X.base, A := X.A, N := N', s₀ := s₀, H₀ := H₀, env := compEnvC scope cl C X.env, outer := X.stack, stack := X.stack, ex := fp, fn := fun _ => false, calm := X.calm, pn := [], xe := fun _ _ => False }

structure CompScope (X : Cx) (N' : List Str) (ix : List (Option Nat)) (scope : Scope) : Prop where
  kind : scope.kind = .function
  nocell : ∀ y ∈ scope.names, y.2 ≠ .cell
  names : ∀ y ∈ scope.names, y.2 = .local → scope.names.lookup y.1 = some .local
  free : ∀ y ∈ scope.names, y.2 = .free → X.env.kindOf y.1 = some .cell ∨ X.env.kindOf y.1 = some .free
  len : ix.length = N'.length
  ixok : ∀ (i j : Nat) (x : Str), ix[i]? = some (some j) → N'[i]? = some x → X.N[j]? = some x ∧ scope.names.lookup x = some .free

def tau (ix : List (Option Nat)) (σ : St) : St := ix.map fun o => match o with | none => none | some j => (σ[j]?).join

/-- the comprehension's reading -/
def tComp (ix : List (Option Nat)) (wi : TI) (g : TG) (tt : TT) (te : TE) : TE := fun σ H Q =>
  wi σ H fun J H1 => ∀ D, H1 D = none →
    ∃ W : Nat → Nat → List V → Hp → Prop, (∃ m, W 0 m [] (upd H1 D (.lst []))) ∧
    ∀ i m acc H2, W i m acc H2 → H2 D = some (.lst acc) →
      (J.stop i H2 ∧ Q (.ref D) H2) ∨
      (J.go i H2 ∧ acc.length < sizeLine ∧ ∀ x H3, J.yld i H2 x H3 → g x (tau ix σ) H3 fun τ H4 => (τ.length = ix.length ∧ ∀ (k : Nat) v, (tau ix σ)[k]? = some (some v) → τ[k]? = some (some v)) ∧
        tt τ H4 fun b H5 => if b = true then te τ H5 fun y H6 => H6 D = some (.lst acc) ∧ ∃ m', m' < m ∧ W (i + 1) m' (acc ++ [y]) (upd H6 D (.lst (acc ++ [y])))
          else H5 D = some (.lst acc) ∧ ∃ m', m' < m ∧ W (i + 1) m' acc H5)

/-- the tests of a clause -/
def PTs (X : Cx) (ifs : List Expr) (t : TT) : Prop :=
  ∀ (pins : List (Addr × Obj)) (s : Shared) (σ : St) (H : Hp) (Q : Bool → Hp → Prop), Inv X pins σ H s → t σ H Q →
    wpAny (model X.prog X.w) X.A (forIn ifs true fun c r => if r = true then do let ok ← isTrue c X.env (eval c X.env); pure (ForInStep.yield ok) else pure (ForInStep.yield r)) (TP X pins σ Q) X.xe s
def tTrue : TT := fun _ H Q => Q true H
theorem pts_nil {X : Cx} : PTs X [] tTrue := fun pins s σ H Q I h => wpAny_tests_nil ⟨H, I, h⟩
theorem pts_one {X : Cx} {c : Expr} {t : TT} (h : PT X c t) : PTs X [c] t := fun pins s σ H Q I hw => wpAny_tests_one (h pins s σ H Q I hw)

section
variable {prog : Program} {w : World} {A : Around} {R : Result → Shared → Prop} {s : Shared}
theorem compLoop_any {elt target iter : Expr} {ifs : List Expr} {scope : Scope} {pos : Pos} {it acc : Value} {env : Env} (I : Nat → Shared → Prop)
    (turn : ∀ n s, I n s → wpAny (model prog w) A (pyNext it) (fun r s₁ => match r with
      | none => R (.ok .next) s₁
      | some v => wpAny (model prog w) A (letOwnedTupleGo target it v) (fun _ s₁' => wpAny (model prog w) A (assign target env v) (fun _ s₂ =>
          wpAny (model prog w) A (forIn ifs true fun c r => if r = true then do let ok ← isTrue c env (eval c env); pure (ForInStep.yield ok) else pure (ForInStep.yield r)) (fun ok s₃ =>
            if ok = true then wpAny (model prog w) A (eval elt env) (fun x s₄ =>
              wpAny (model prog w) A (call (.builtin "list.append") [acc, x]) (fun _ s₅ => ∃ m, m < n ∧ I m s₅) (fun _ _ => False) s₄) (fun _ _ => False) s₃
            else ∃ m, m < n ∧ I m s₃) (fun _ _ => False) s₂) (fun _ _ => False) s₁') (fun _ _ => False) s₁) (fun _ _ => False) s)
    (n : Nat) (h : I n s) :
    codeAny (model prog w) A (.compLoop (.ListComp elt [⟨target, iter, ifs, 0⟩] scope pos) 0 it acc env) R s := by
  refine codeAny_loop rfl I (fun n s hI => ?_) n h
  show wpAny _ A ((compTurn (.ListComp elt [⟨target, iter, ifs, 0⟩] scope pos) 0 it acc env).onRaise (fun x => do noteFrame x env; theTreesLotGoes x)) _ _ s
  refine wpAny_noted ?_
  rw [compTurn_list]
  refine wpAny_bind (wpAny_standAt (wpAny_bind (wpAny_mono (turn n s hI) (fun r s₁ h₁ => ?_) fun _ _ h' => h'.elim)))
  cases r with
  | none => exact wpAny_pure h₁
  | some v =>
    refine wpAny_bind (wpAny_mono h₁ (fun _ s₁' h₁' => ?_) fun _ _ h' => h'.elim)
    refine wpAny_bind (wpAny_mono h₁' (fun _ s₂ h₂ => wpAny_bind (wpAny_mono h₂ (fun ok s₃ h₃ => ?_) fun _ _ h' => h'.elim)) fun _ _ h' => h'.elim)
    cases ok with
    | false => exact wpAny_pure ⟨rfl, h₃⟩
    | true =>
      exact wpAny_bind (wpAny_bind (wpAny_mono h₃ (fun x s₄ h₄ => wpAny_bind (wpAny_mono h₄ (fun _ s₅ h₅ => wpAny_pure (wpAny_pure ⟨rfl, h₅⟩)) fun _ _ h' => h'.elim)) fun _ _ h' => h'.elim))
end

section
variable {X : Cx}
/-- the block's context is right, and the state at its first turn -/
theorem comp_start {pins : List (Addr × Obj)} {σ : St} {H1 : Hp} {s2 : Shared} {N' : List Str} {ix : List (Option Nat)} {scope : Scope} {fp : List Addr} {h₁ : Heap}
    (S : CompScope X N' ix scope) (I : Inv X pins σ H1 s2) (f2 : ∀ b ∈ fp, FpOk X pins H1 b) (hfp : ∀ b ∈ fp, b < s2.heap.objs.size)
    (hns : h₁.Ns (s2.heap.objs.size + 1) (fun x => ([] : List (Str × Value)).reverse.lookup x))
    (hsb : Heap.SameBut (s2.heap.objs.size + 1) ((s2.heap.push { cls := .type "list", dict := none, data := .seq ([] : List Value).toArray }).push { cls := .type "dict", data := .dict #[] }) h₁) (tk : Nat) :
    Inv (X.comp scope (clOf X.env.cells scope.names []) (s2.heap.objs.size + 1) { s2 with heap := s2.heap.push { cls := .type "list", dict := none, data := .seq ([] : List Value).toArray } } (upd H1 s2.heap.objs.size (.lst [])) fp N') [] (tau ix σ)
      (upd H1 s2.heap.objs.size (.lst [])) { s2 with heap := h₁, toks := tk } := by
  have hfr : ∀ y ∈ scope.names, y.2 = .free → ∃ c, X.env.cells.lookup y.1 = some c := fun y hy e => I.ok.has _ (S.free y hy e)
  have fwd : ∀ x c, (clOf X.env.cells scope.names []).lookup x = some c → X.env.cells.lookup x = some c := fun x c h => clOf_fwd hfr (fun z hz => by cases hz) h
  have I3 : Inv X pins σ (upd H1 s2.heap.objs.size (.lst [])) { s2 with heap := s2.heap.push { cls := .type "list", dict := none, data := .seq ([] : List Value).toArray } } := I.lnew (t' := s2.toks) (ys := []) .nil (Nat.zero_le _)
  have sz3 : (s2.heap.push { cls := .type "list", dict := none, data := .seq ([] : List Value).toArray }).objs.size = s2.heap.objs.size + 1 := Heap.size_push ..
  have old : ∀ b o, (s2.heap.push { cls := .type "list", dict := none, data := .seq ([] : List Value).toArray }).get? b = some o → h₁.get? b = some o := fun b o e =>
    hsb.extBut b o (by have := Heap.lt_size e; rw [sz3] at this; exact Nat.ne_of_lt this) (Heap.get?_push_of_some _ e)
  have ncell : ∀ x c, X.env.cells.lookup x = some c → c < s2.heap.objs.size := fun x c e => by
    obtain ⟨v, z⟩ := I.cell x c e
    exact z.lt
  refine ⟨⟨I.ok.mod, ?_, I.ok.glob, I.ok.blt, ?_, fun x y c h1 h2 => I.ok.inj x y c (fwd x c h1) (fwd y c h2), fun x hx => ?_, fun _ _ h => (nomatch h), I.ok.hd, I.ok.frames, .inl rfl, fun b hb => ⟨?_, fun x c e => ?_⟩, fun b o e => I3.bs b o e, ?_, fun b o e hb => ?_, fun b hb => ?_, I3.stack, I3.stkFree⟩,
    rfl, I.bare, Un.kept old, ⟨_, hns, fun i x v h1 h2 h3 => ?_⟩, fun x c e => ?_, ?_, fun x c e => ?_, fun p hp => absurd (show p ∈ ([] : List (Addr × Obj)) from hp) (by simp), I3.hok.kept old, ?_⟩
  · show (relabel scope X.env).kind = .function
    exact S.kind
  · show (s2.heap.push { cls := .type "list", dict := none, data := .seq ([] : List Value).toArray }).objs.size ≤ s2.heap.objs.size + 1
    rw [sz3]; exact Nat.le_refl _
  · have hx' : (x, NameKind.free) ∈ scope.names := relabel_free (env := X.env) S.nocell hx
    obtain ⟨c, hc⟩ := hfr _ hx' rfl
    exact ⟨c, clOf_acc hc (.inl hx')⟩
  · show b ≠ s2.heap.objs.size + 1
    exact Nat.ne_of_lt (Nat.lt_succ_of_lt (hfp b hb))
  · exact (f2 b hb).2.2.2.2.1 x c (fwd x c e)
  · show X.base.objs.size ≤ (s2.heap.push { cls := .type "list", dict := none, data := .seq ([] : List Value).toArray }).objs.size
    rw [sz3]
    exact Nat.le_succ_of_le (Nat.le_trans I.ok.bsz I.sz)
  · rcases (f2 b hb).2.2.2.1 with z | z
    · exact I.ok.noex b o e z
    · exact absurd (Nat.lt_of_lt_of_le (Heap.lt_size e) (Nat.le_trans I.ok.bsz z)) (Nat.lt_irrefl _)
  · intro hm
    rcases List.mem_cons.mp (I.stkSub b hm) with z | z
    · exact (f2 b hb).2.1 z
    · exact (f2 b hb).2.2.1 z
  · have hi : ∃ j, ix[i]? = some (some j) ∧ σ[j]? = some (some v) := by
      unfold tau at h2
      rw [List.getElem?_map] at h2
      cases e : ix[i]? with
      | none => rw [e] at h2; cases h2
      | some o =>
        rw [e] at h2
        cases o with
        | none => cases h2
        | some j =>
          refine ⟨j, rfl, ?_⟩
          have h2' : (σ[j]?).join = some v := Option.some.inj h2
          cases e2 : σ[j]? with
          | none => rw [e2] at h2'; cases h2'
          | some q => rw [e2] at h2'; exact congrArg some h2'
    obtain ⟨j, hj, hσ⟩ := hi
    obtain ⟨hN, hfree⟩ := S.ixok i j x hj h1
    have hmem : (x, NameKind.free) ∈ scope.names := mem_of_lookup_free hfree
    have hk := S.free _ hmem rfl
    obtain ⟨m, hn, hl⟩ := I3.loc
    obtain ⟨u, r, l⟩ := hl j x v hN hσ (by rcases hk with k | k; exact .inr (.inl k); exact .inr (.inr k))
    refine ⟨u, r, ?_⟩
    rcases l with ⟨k, _⟩ | ⟨_, c, hc, z⟩
    · rcases hk with q | q
      · rw [show X.env.kindOf x = some .cell from q] at k; cases k
      · rw [show X.env.kindOf x = some .free from q] at k; cases k
    · refine .inr ⟨?_, c, clOf_acc hc (.inl hmem), z.keeps old⟩
      exact relabel_lookup_free (env := X.env) hfree
  · obtain ⟨v, z⟩ := I3.cell x c (fwd x c e)
    exact ⟨v, z.keeps old⟩
  · show (upd H1 s2.heap.objs.size (.lst [])) (s2.heap.objs.size + 1) = none
    rw [upd_ne (Nat.succ_ne_self _)]
    exact I.hok.fresh (Nat.le_succ _)
  · exact I3.freeC x c (fwd x c e)
  · show (tau ix σ).length = N'.length
    unfold tau
    rw [List.length_map]
    exact S.len

/-- THE BLOCK: from the iterator on; C's own objects and fp have turned, all else is as the reading says -/
theorem comp_block {pins : List (Addr × Obj)} {σ : St} {H1 : Hp} {s2 : Shared} {N' : List Str} {ix : List (Option Nat)} {scope : Scope} {fp : List Addr} {it : Addr} {tn : Nat → Heap → Prop} {J : It}
    {elt tg iter : Expr} {ifs : List Expr} {pos : Pos} {g : TG} {tt : TT} {te : TE} {Q : VK} {RR : Value → Addr → Result → Shared → Prop}
    (S : CompScope X N' ix scope) (hcalm : X.calm = true) (I : Inv X pins σ H1 s2) (T : Turn X.prog X.w X.K tg J fp it tn) (st : tn 0 s2.heap) (f2 : ∀ b ∈ fp, FpOk X pins H1 b)
    (hg : ∀ C s₀ H₀, PG (X.comp scope (clOf X.env.cells scope.names []) C s₀ H₀ fp N') tg g)
    (ht : ∀ C s₀ H₀, PTs (X.comp scope (clOf X.env.cells scope.names []) C s₀ H₀ fp N') ifs tt)
    (he : ∀ C s₀ H₀, PE (X.comp scope (clOf X.env.cells scope.names []) C s₀ H₀ fp N') elt te)
    (h : ∀ D, H1 D = none →
      ∃ W : Nat → Nat → List V → Hp → Prop, (∃ m, W 0 m [] (upd H1 D (.lst []))) ∧
      ∀ i m acc H2, W i m acc H2 → H2 D = some (.lst acc) →
        (J.stop i H2 ∧ Q (.ref D) H2) ∨
        (J.go i H2 ∧ acc.length < sizeLine ∧ ∀ x H3, J.yld i H2 x H3 → g x (tau ix σ) H3 fun τ H4 => (τ.length = ix.length ∧ ∀ (k : Nat) v, (tau ix σ)[k]? = some (some v) → τ[k]? = some (some v)) ∧
          tt τ H4 fun b H5 => if b = true then te τ H5 fun y H6 => H6 D = some (.lst acc) ∧ ∃ m', m' < m ∧ W (i + 1) m' (acc ++ [y]) (upd H6 D (.lst (acc ++ [y])))
            else H5 D = some (.lst acc) ∧ ∃ m', m' < m ∧ W (i + 1) m' acc H5))
    (hRR : ∀ D C s' H', Inv X pins σ H' s' → Q (.ref D) H' → (∃ m, s'.heap.Ns C m) → H' C = none → C ≠ X.env.locals → X.s₀.heap.objs.size ≤ C → (∀ x c, X.env.cells.lookup x = some c → c ≠ C) → (∀ p ∈ X.pn ++ pins, p.1 ≠ C) → RR (.ref D) C (.ok .next) s') :
    wpAny (model X.prog X.w) X.A (newList []) (fun acc s₃ => wpAny (model X.prog X.w) X.A (newFunctionEnv scope X.env.globals (clOf X.env.cells scope.names []) [] X.env.qual none .none (some X.env)) (fun cenv s₄ =>
      codeAny (model X.prog X.w) X.A (.compStart (.ListComp elt [⟨tg, iter, ifs, 0⟩] scope pos) 0 (.ref it) acc { cenv with scope := relabel scope X.env }) (RR acc cenv.locals) s₄) X.xe s₃) X.xe s2 := by
  have hfp : ∀ b ∈ fp, b < s2.heap.objs.size := fun b hb => by
    obtain ⟨o, e, _⟩ := T.obj _ _ st b hb
    exact Heap.lt_size e
  refine wpAny_newObj_type (wpAny_newFunctionEnv S.nocell (by intro y hy; simp at hy) (fun h₁ hns₁ hsb₁ => ?_) S.kind)
  have sz3 : (s2.heap.push { cls := .type "list", dict := none, data := .seq ([] : List Value).toArray }).objs.size = s2.heap.objs.size + 1 := Heap.size_push ..
  dsimp only at hns₁ hsb₁ ⊢
  rw [sz3] at hns₁ hsb₁ ⊢
  obtain ⟨W, ⟨m0, w0⟩, turn⟩ := h s2.heap.objs.size (I.hok.fresh (Nat.le_refl _))
  have I4 := comp_start (N' := N') (ix := ix) (fp := fp) S I f2 hfp hns₁ hsb₁ (s2.toks + ([] : List (Str × Value)).length)
  generalize hX' : X.comp scope (clOf X.env.cells scope.names []) (s2.heap.objs.size + 1) { s2 with heap := s2.heap.push { cls := .type "list", dict := none, data := .seq ([] : List Value).toArray } } (upd H1 s2.heap.objs.size (.lst [])) fp N' = X' at I4
  have old : ∀ b o, s2.heap.get? b = some o → h₁.get? b = some o := fun b o e =>
    hsb₁.extBut b o (Nat.ne_of_lt (Nat.lt_succ_of_lt (Heap.lt_size e))) (Heap.get?_push_of_some _ (Heap.get?_push_of_some _ e))
  have st4 : tn 0 h₁ := T.keep _ _ _ st fun b _ o e => old b o e
  have n4 : ∀ b ∈ fp, (upd H1 s2.heap.objs.size (.lst [])) b = none := fun b hb => by rw [upd_ne (Nat.ne_of_lt (hfp b hb))]; exact (f2 b hb).1
  have stat : ∀ {H' : Hp}, (∀ b ∈ fp, H' b = none) → ∀ b ∈ fp, FpOk X' [] H' b := fun {H'} hn b hb => by
    subst hX'
    refine ⟨hn b hb, Nat.ne_of_lt (Nat.lt_succ_of_lt (hfp b hb)), fun hm => ?_, .inl hb, fun x c e => ?_, fun p hp => absurd (show p ∈ ([] : List (Addr × Obj)) from hp) (by simp)⟩
    · rcases List.mem_cons.mp (I.stkSub b hm) with z | z
      · exact (f2 b hb).2.1 z
      · exact (f2 b hb).2.2.1 z
    · exact (f2 b hb).2.2.2.2.1 x c (clOf_fwd (fun y hy e => I.ok.has _ (S.free y hy e)) (fun z hz => by cases hz) e)
  have loop : ∀ s₄ : Shared, s₄ = { s2 with heap := h₁, toks := s2.toks + ([] : List (Str × Value)).length } →
      codeAny (model X.prog X.w) X.A (.compLoop (.ListComp elt [⟨tg, iter, ifs, 0⟩] scope pos) 0 (.ref it) (.ref s2.heap.objs.size) (compEnvC scope (clOf X.env.cells scope.names []) (s2.heap.objs.size + 1) X.env)) (RR (.ref s2.heap.objs.size) (s2.heap.objs.size + 1)) s₄ := by
    rintro s₄ rfl
    refine compLoop_any (fun n s' => ∃ i acc H', Inv X' [] (tau ix σ) H' s' ∧ tn i s'.heap ∧ (∀ b ∈ fp, H' b = none) ∧ H' s2.heap.objs.size = some (.lst acc) ∧ W i n acc H') ?_ m0
      ⟨0, [], _, I4, st4, n4, upd_same, w0⟩
    rintro n s5 ⟨i, acc, H5, I5, st5, fr5, hD5, w5⟩
    have pE : X'.prog = X.prog := by subst hX'; rfl
    have wE : X'.w = X.w := by subst hX'; rfl
    have kE : X'.K = X.K := by subst hX'; rfl
    have aE : X'.A = X.A := by subst hX'; rfl
    have cE : X'.calm = true := by subst hX'; exact hcalm
    rcases turn i n acc H5 w5 hD5 with ⟨stop, q⟩ | ⟨go, hz, step⟩
    · have z := T.done X' pE wE kE cE i [] s5 (tau ix σ) H5 (fun _ _ => False) I5 (stat fr5) st5 stop
      rw [aE] at z
      refine thn z fun r s6 ⟨hr, I6⟩ => ?_
      subst hr
      have I6' := I6
      subst hX'
      have bs6 := I6.base
      have un : Un (frs X.stack) fp H1 H5 s2.heap s6.heap := Un.trans (Un.laid (o := .lst []) (fun b u q => Heap.get?_push_of_some _ q) (Nat.le_refl _) (I.hok.fresh (Nat.le_refl _))) bs6
      have IX : Inv X pins σ H5 s6 := Inv.call' I I6.os un I6.hok I6.bare fun b hb => ⟨(f2 b hb).2.2.2.1, (f2 b hb).2.1, (f2 b hb).2.2.2.2.1, (f2 b hb).2.2.2.2.2⟩
      refine hRR _ _ s6 H5 IX q ?_ I6.free ?_ ?_ ?_ ?_
      · obtain ⟨m, hn, _⟩ := I6.loc
        exact ⟨m, hn⟩
      · exact Nat.ne_of_gt (Nat.lt_succ_of_lt I.lt)
      · exact Nat.le_succ_of_le I.sz
      · intro x c e
        obtain ⟨v, z⟩ := I.cell x c e
        exact Nat.ne_of_lt (Nat.lt_succ_of_lt z.lt)
      · intro p hp
        exact Nat.ne_of_lt (Nat.lt_succ_of_lt (Heap.lt_size (I.pin p hp).1))
    · have z := T.item X' pE wE kE cE i [] s5 (tau ix σ) H5 (fun _ _ => False) I5 (stat fr5) st5 go
      rw [aE] at z
      refine thn z fun r s6 ⟨u, hr, h6⟩ => ?_
      subst hr
      refine thn h6 fun _ s7 ⟨x, H7, I7, r7, y7, st7, fr7⟩ => ?_
      have I7' := I7.pinned (stat fr7) (T.obj _ _ st7)
      have hg' := hg (s2.heap.objs.size + 1) { s2 with heap := s2.heap.push { cls := .type "list", dict := none, data := .seq ([] : List Value).toArray } } (upd H1 s2.heap.objs.size (.lst []))
      have ht' := ht (s2.heap.objs.size + 1) { s2 with heap := s2.heap.push { cls := .type "list", dict := none, data := .seq ([] : List Value).toArray } } (upd H1 s2.heap.objs.size (.lst []))
      have he' := he (s2.heap.objs.size + 1) { s2 with heap := s2.heap.push { cls := .type "list", dict := none, data := .seq ([] : List Value).toArray } } (upd H1 s2.heap.objs.size (.lst []))
      subst hX'
      have back : ∀ {τ : St} {H8 : Hp} {s8 : Shared}, (τ.length = ix.length ∧ ∀ (k : Nat) v, (tau ix σ)[k]? = some (some v) → τ[k]? = some (some v)) →
          Inv (X.comp scope (clOf X.env.cells scope.names []) (s2.heap.objs.size + 1) { s2 with heap := s2.heap.push { cls := .type "list", dict := none, data := .seq ([] : List Value).toArray } } (upd H1 s2.heap.objs.size (.lst [])) fp N') ([] ++ pinsAt fp s7.heap) τ H8 s8 →
          ∀ {acc' : List V} {m' : Nat}, H8 s2.heap.objs.size = some (.lst acc') → W (i + 1) m' acc' H8 → m' < n →
          ∃ m, m < n ∧ ∃ i acc H', Inv (X.comp scope (clOf X.env.cells scope.names []) (s2.heap.objs.size + 1) { s2 with heap := s2.heap.push { cls := .type "list", dict := none, data := .seq ([] : List Value).toArray } } (upd H1 s2.heap.objs.size (.lst [])) fp N') [] (tau ix σ) H' s8 ∧ tn i s8.heap ∧ (∀ b ∈ fp, H' b = none) ∧ H' s2.heap.objs.size = some (.lst acc) ∧ W i m acc H' := fun {τ H8 s8} hτ I8 {acc' m'} hD8 w8 hm => by
        refine ⟨m', hm, i + 1, acc', H8, (Inv.unpinned I8).weak (by rw [hτ.1]; unfold tau; rw [List.length_map]) hτ.2, T.keep _ _ _ st7 fun b hb o e => (I8.pin (b, o) (List.mem_append_right _ (List.mem_append_right _ (mem_pinsAt hb e)))).1, fun b hb => ?_, hD8, w8⟩
        obtain ⟨o, e, d⟩ := T.obj _ _ st7 b hb
        exact (I8.pin (b, o) (List.mem_append_right _ (List.mem_append_right _ (mem_pinsAt hb e)))).2.1
      refine thn (hg' _ s7 (tau ix σ) H7 x u _ I7' r7 (step x H7 y7)) fun _ s8 ⟨τ, H8, I8, hτ, q8⟩ => ?_
      refine thn (ht' _ s8 τ H8 _ I8 q8) fun b s9 ⟨H9, I9, q9⟩ => ?_
      cases b with
      | false =>
        obtain ⟨hD9, m', hm, w9⟩ := q9
        exact back hτ I9 hD9 w9 hm
      | true =>
        refine thn (he' _ s9 τ H9 _ I9 q9) fun yv s10 ⟨y, H10, I10, r10, hD10, m', hm, w10⟩ => ?_
        refine thn (mt_append _ s10 τ H10 (.ref s2.heap.objs.size) [y] (.ref s2.heap.objs.size) [yv] (fun v H => v = .non ∧ H = upd H10 s2.heap.objs.size (.lst (acc ++ [y]))) I10 rfl (.cons r10 .nil) ⟨_, acc, y, rfl, rfl, hD10, hz, rfl, rfl⟩) fun _ s11 ⟨v, H11, I11, r11, hv, hH⟩ => ?_
        subst hH
        exact back hτ I11 upd_same w10 hm
  exact codeAny_compStart_list (loop _ rfl) (T.self _ 0 _ _ _ st4 (loop _ rfl))

theorem pe_comp {elt tg iter : Expr} {ifs : List Expr} {scope : Scope} {pos : Pos} {N' : List Str} {ix : List (Option Nat)} {wi : TI} {g : TG} {tt : TT} {te : TE}
    (S : CompScope X N' ix scope) (hcalm : X.calm = true) (hi : PI X tg iter wi)
    (hg : ∀ C s₀ H₀ fp, PG (X.comp scope (clOf X.env.cells scope.names []) C s₀ H₀ fp N') tg g)
    (ht : ∀ C s₀ H₀ fp, PTs (X.comp scope (clOf X.env.cells scope.names []) C s₀ H₀ fp N') ifs tt)
    (he : ∀ C s₀ H₀ fp, PE (X.comp scope (clOf X.env.cells scope.names []) C s₀ H₀ fp N') elt te)
    (hs : ∀ x, foldedSetIterable iter X.env x = pure x := by intro _; rfl) :
    PE X (.ListComp elt [⟨tg, iter, ifs, 0⟩] scope pos) (tComp ix wi g tt te) := by
  intro pins s σ H Q I h
  rw [eval_ListComp]
  refine wpAny_comprehension_free (use := none) rfl hs (closure_of fun y hy e => I.ok.has _ (S.free y hy e)) S.kind S.names (thn (hi pins s σ H _ I h) fun v s1 h1 => thn h1 fun itv s2 h2 => ?_)
  obtain ⟨it, fp, tn, J, H2, e, I2, T, st2, f2, hW⟩ := h2
  subst e
  refine comp_block (RR := fun acc C => compPost (model X.prog X.w) X.A X.xe none (EP X pins σ Q) acc C) S hcalm I2 T st2 f2 (fun C s₀ H₀ => hg C s₀ H₀ fp) (fun C s₀ H₀ => ht C s₀ H₀ fp) (fun C s₀ H₀ => he C s₀ H₀ fp) hW ?_
  intro D C s' H' I' q hn hC hL h1 h2 h3
  obtain ⟨m, hn⟩ := hn
  refine ⟨m, hn, fun h' hs' => ?_⟩
  have I'' : Inv X pins σ H' { s' with heap := h' } := I'.turned (t' := s'.toks) (fun b o hb e => hs'.extBut b o hb e) hC hL.symm.symm (.inr h1) h2 h3
  exact ⟨.ref D, H', I'', rfl, q⟩

/-- x = [.. for ..] where the name is a plain local: stored ahead of the block's end -/
theorem ps_setC {elt tg iter : Expr} {ifs : List Expr} {scope : Scope} {pos pos' spos : Pos} {N' : List Str} {ix : List (Option Nat)} {wi : TI} {g : TG} {tt : TT} {te : TE} {k : Nat} {x : Str}
    (hN : X.N.Nodup) (hk : X.N[k]? = some x) (hx : X.env.scope.names.lookup x = some .local)
    (S : CompScope X N' ix scope) (hcalm : X.calm = true) (hi : PI X tg iter wi)
    (hg : ∀ C s₀ H₀ fp, PG (X.comp scope (clOf X.env.cells scope.names []) C s₀ H₀ fp N') tg g)
    (ht : ∀ C s₀ H₀ fp, PTs (X.comp scope (clOf X.env.cells scope.names []) C s₀ H₀ fp N') ifs tt)
    (he : ∀ C s₀ H₀ fp, PE (X.comp scope (clOf X.env.cells scope.names []) C s₀ H₀ fp N') elt te)
    (hsw : swapsWith (.ListComp elt [⟨tg, iter, ifs, 0⟩] scope pos) (some (.Name x pos')) spos.line X.env = pure true)
    (hs : ∀ x, foldedSetIterable iter X.env x = pure x := by intro _; rfl) :
    PS X (.Assign [.Name x pos'] (.ListComp elt [⟨tg, iter, ifs, 0⟩] scope pos) spos) (tAsg (tComp ix wi g tt te) (gName k)) := by
  intro pins s σ H D I h
  rw [exec_Assign_Name_used _ _ _ _ hsw]
  refine wpAny_bind (wpAny_standAt (wpAny_bind ?_))
  show wpAny _ _ (do let _ ← comprehension (.ListComp elt [⟨tg, iter, ifs, 0⟩] scope pos) scope X.env _ (newList []) false (eval iter X.env) (some (assign (.Name x pos') X.env))) _ _ s
  refine wpAny_bind (wpAny_mono (wpAny_comprehension_free (use := some (assign (.Name x pos') X.env)) (Q := fun _ s' => SP X pins D .next s') rfl hs (closure_of fun y hy e => I.ok.has _ (S.free y hy e)) S.kind S.names
    (thn (hi pins s σ H _ I h) fun v s1 h1 => thn h1 fun itv s2 h2 => ?_)) (fun _ s' hq => wpAny_pure (wpAny_pure hq)) fun _ _ e => e)
  obtain ⟨it, fp, tn, J, H2, e, I2, T, st2, f2, hW⟩ := h2
  subst e
  refine comp_block (RR := fun acc C => compPost (model X.prog X.w) X.A X.xe (some (assign (.Name x pos') X.env)) (fun _ s' => SP X pins D .next s') acc C) (Q := fun x H1 => gName k x σ H1 D.nx) S hcalm I2 T st2 f2 (fun C s₀ H₀ => hg C s₀ H₀ fp) (fun C s₀ H₀ => ht C s₀ H₀ fp) (fun C s₀ H₀ => he C s₀ H₀ fp) hW ?_
  intro Dd C s' H' I' q hn hC hL h1 h2 h3
  obtain ⟨m, hn⟩ := hn
  show wpAny _ _ (assign (.Name x pos') X.env (.ref Dd)) _ _ _
  refine wpAny_assign_Name (store_ok2 I' hN hk (.inl hx) (v := .ref Dd) rfl (fun s'' I'' hsame => ?_) (.inr hx))
  obtain ⟨a, hsb, ha⟩ := hsame
  have haC : C ≠ a := by
    rcases ha with z | z
    · rw [z]; exact hL
    · exact fun e => h2 x a z e.symm
  refine ⟨m, hn.sameBut hsb haC, fun h' hs' => ?_⟩
  have I3 : Inv X pins (σ.set k (some (.ref Dd))) H' { s'' with heap := h' } := I''.turned (t' := s''.toks) (fun b o hb e => hs'.extBut b o hb e) hC hL (.inr h1) h2 h3
  exact ⟨_, H', I3, q⟩
end
end L2

set_option Elab.async false
set_option linter.all false
set_option maxRecDepth 100000
namespace L2
open PySem PySem.Spec PyProof.Rows
section
variable {X : Cx} {a b : Expr} {ta tb : TE} {pos : Pos}

/-! ### texts compared -/
theorem op_le_str : OpR X (compareOp .LtE) (fun x y H Q => ∃ i j, x = .str i ∧ y = .str j ∧ Q (.bl (!decide (j.cps.toList < i.cps.toList))) H) := by
  intro pins s σ H x y v u Q I rx ry h
  obtain ⟨i, j, rfl, rfl, q⟩ := h
  obtain ⟨t, rfl⟩ := rx
  obtain ⟨t', rfl⟩ := ry
  exact PySem.P.le_str ⟨.bl _, H, I, rfl, q⟩
theorem op_gt_str : OpR X (compareOp .Gt) (fun x y H Q => ∃ i j, x = .str i ∧ y = .str j ∧ Q (.bl (decide (j.cps.toList < i.cps.toList))) H) := by
  intro pins s σ H x y v u Q I rx ry h
  obtain ⟨i, j, rfl, rfl, q⟩ := h
  obtain ⟨t, rfl⟩ := rx
  obtain ⟨t', rfl⟩ := ry
  exact PySem.P.gt_str ⟨.bl _, H, I, rfl, q⟩
theorem op_ge_str : OpR X (compareOp .GtE) (fun x y H Q => ∃ i j, x = .str i ∧ y = .str j ∧ Q (.bl (!decide (i.cps.toList < j.cps.toList))) H) := by
  intro pins s σ H x y v u Q I rx ry h
  obtain ⟨i, j, rfl, rfl, q⟩ := h
  obtain ⟨t, rfl⟩ := rx
  obtain ⟨t', rfl⟩ := ry
  exact PySem.P.ge_str ⟨.bl _, H, I, rfl, q⟩
theorem op_is_bl : OpR X (compareOp .Is) (fun x y H Q => ∃ i j, x = .bl i ∧ y = .bl j ∧ Q (.bl (i == j)) H) := by
  intro pins s σ H x y v u Q I rx ry h
  obtain ⟨i, j, rfl, rfl, q⟩ := h
  cases rx
  cases ry
  exact is_bool ⟨.bl _, H, I, rfl, q⟩
/-- text times a number -/
theorem op_mul_str : OpR X (binaryOp .Mult) (fun x y H Q => ∃ i j, x = .str i ∧ y = .int j ∧ (i.length ≤ 16 ∧ 0 ≤ j ∧ j ≤ 1000) ∧ Q (.str (Txt.mul i j)) H) := by
  intro pins s σ H x y v u Q I rx ry h
  obtain ⟨i, j, rfl, rfl, ⟨h1, h2, h3⟩, q⟩ := h
  obtain ⟨t, rfl⟩ := rx
  obtain ⟨t', rfl⟩ := ry
  exact SB.mul (mulOk_of 16 1000 h1 (by omega) (by omega) (by decide) (by decide)) fun t' k => ⟨.str _, H, I.tok _, ⟨_, rfl⟩, q⟩

/-! ### lists and tuples at hand -/
def rIxLd : R2 := fun x y H Q => ∃ p xs i v, x = .ref p ∧ y = .int i ∧ H p = some (.lst xs) ∧ atI xs i = some v ∧ Q v H
def rIxTd : R2 := fun x y H Q => ∃ p xs i v, x = .ref p ∧ y = .int i ∧ H p = some (.tup xs) ∧ atI xs i = some v ∧ Q v H
theorem ix_ld : IxR X rIxLd := by
  intro value slice pins s σ H x y v u Q I rx ry h hs
  obtain ⟨p, xs, i, w', e1, e2, e3, e4, q⟩ := h
  exact ix_list value slice pins s σ H x y v u Q I rx ry ⟨p, xs, i, w', e1, e2, SqL.of e3, e4, q⟩ hs
theorem ix_td : IxR X rIxTd := by
  intro value slice pins s σ H x y v u Q I rx ry h hs
  obtain ⟨p, xs, i, w', e1, e2, e3, e4, q⟩ := h
  exact ix_tup value slice pins s σ H x y v u Q I rx ry ⟨p, xs, i, w', e1, e2, SqT.of e3, e4, q⟩ hs
/-- len of a thing at hand -/
inductive LenH (H : Hp) : V → Nat → Prop where
  | str (z : Str) (h : z.length ≤ sizeLine) : LenH H (.str z) z.length
  | lst {p : Addr} {xs : List V} (h : H p = some (.lst xs)) : LenH H (.ref p) xs.length
  | tup {p : Addr} {xs : List V} (h : H p = some (.tup xs)) : LenH H (.ref p) xs.length
theorem call_lenH : CallR X (.builtin "len") (fun xs H Q => ∃ x n, xs = [x] ∧ LenH H x n ∧ Q (.int n) H) := by
  intro pins s σ H xs us Q I r h
  obtain ⟨x, n, e, l, q⟩ := h
  subst e
  cases l with
  | str z hz => exact call_len_str pins s σ H _ us Q I r ⟨z, rfl, hz, q⟩
  | @lst p ys hp => exact call_len_seq pins s σ H _ us Q I r ⟨p, ys, rfl, .inl (SqL.of hp), q⟩
  | @tup p ys hp => exact call_len_seq pins s σ H _ us Q I r ⟨p, ys, rfl, .inr (SqT.of hp), q⟩

/-! ### isinstance -/
theorem call_isinst : CallR X (.builtin "isinstance") (fun xs H Q => ∃ x c t k, xs = [x, .ty c] ∧ TyOf X.K H x t ∧ PySem.W.kitOne X.K t (.type c) = some k ∧ Q (.bl k) H) := by
  intro pins s σ H xs us Q I r h
  obtain ⟨x, c, t, k, e, ty, ek, q⟩ := h
  subst e
  obtain ⟨u, w', rfl, ru, rw'⟩ := vals2 r
  obtain rfl : w' = Value.type c := rw'
  exact isinst_ok I ru ty ek fun tk => ⟨.bl k, H, I.tok _, rfl, q⟩

/-! ### all, any of a list of truths -/
theorem range_all {n : Nat} {bs : List Bool} (hn : bs.length = n) : (List.range n).all (fun i => bs.getD i true) = bs.all id := by
  subst hn
  rw [Bool.eq_iff_iff, List.all_eq_true, List.all_eq_true]
  constructor
  · intro h x hx
    obtain ⟨i, hi, rfl⟩ := List.mem_iff_getElem.mp hx
    have := h i (List.mem_range.mpr hi)
    simpa [List.getD_eq_getElem?_getD, hi] using this
  · intro h i hi
    have hi' := List.mem_range.mp hi
    have := h _ (List.getElem_mem hi')
    simpa [List.getD_eq_getElem?_getD, hi'] using this
theorem range_any {n : Nat} {bs : List Bool} (hn : bs.length = n) : (List.range n).any (fun i => bs.getD i true) = bs.any id := by
  subst hn
  rw [Bool.eq_iff_iff, List.any_eq_true, List.any_eq_true]
  constructor
  · rintro ⟨i, hi, h⟩
    have hi' := List.mem_range.mp hi
    exact ⟨_, List.getElem_mem hi', by simpa [List.getD_eq_getElem?_getD, hi'] using h⟩
  · rintro ⟨x, hx, h⟩
    obtain ⟨i, hi, rfl⟩ := List.mem_iff_getElem.mp hx
    exact ⟨i, List.mem_range.mpr hi, by simpa [List.getD_eq_getElem?_getD, hi] using h⟩
theorem vals_bl {bs : List Bool} : ∀ {us : List Value}, Vals (bs.map V.bl) us → us = bs.map Value.bool := by
  induction bs with
  | nil => intro us r; cases r; rfl
  | cons b bs ih => intro us r; cases r with | cons r1 r2 => rw [ih r2, show _ = Value.bool b from r1]; rfl
theorem call_all (hc : X.calm = true) : CallR X (.builtin "all") (fun xs H Q => ∃ (p : Addr) (bs : List Bool), xs = [.ref p] ∧ H p = some (.lst (bs.map V.bl)) ∧ Q (.bl (bs.all id)) H) := by
  intro pins s σ H xs us Q I r h
  obtain ⟨p, bs, e, hp, q⟩ := h
  subst e
  obtain ⟨u, rfl, ru⟩ := vals1 r
  obtain rfl : u = Value.ref p := ru
  obtain ⟨z, its, n, rv, hl, ho⟩ := I.lstM hp
  have ei := vals_bl rv
  have hI : s.heap.IsList p its.toArray := ⟨_, ho, rfl, n, rfl⟩
  have hne : p ≠ s.heap.objs.size := Nat.ne_of_lt (Heap.lt_size ho)
  refine call_all_walk (wpAny_pyIter_list hI ?_)
  refine ⟨s.heap.objs.size, _, _, _, _, _, fun i => bs.getD i true, rfl, Walks.list (A := X.A.in1) (I.ok.hd hc) s.heap.objs.size p hne its.toArray, ⟨⟨_, Heap.get?_push_size _ rfl, rfl, rfl⟩, ⟨_, Heap.get?_push_of_some _ ho, rfl, n, rfl⟩⟩, ?_, fun h' tk hk => ?_⟩
  · intro i v s' Q' E' hP hQ
    have hP' : its[i]? = some v := by simpa using hP
    rw [ei, List.getElem?_map] at hP'
    cases e : bs[i]? with
    | none => rw [e] at hP'; cases hP'
    | some b' =>
      rw [e] at hP'
      have ev : Value.bool b' = v := Option.some.inj hP'
      subst ev
      refine wpAny_truthy_bool ?_
      have : bs.getD i true = b' := by simp [List.getD_eq_getElem?_getD, e]
      dsimp only at hQ
      rw [this] at hQ
      exact hQ
  · rw [range_all (by rw [List.size_toArray, ei, List.length_map])]
    refine ⟨.bl _, H, ?_, rfl, q⟩
    exact I.kept (h' := h') (t' := tk) fun b o e => hk b o (by simp; exact Nat.ne_of_lt (Heap.lt_size e)) (Heap.get?_push_of_some _ e)
theorem call_any (hc : X.calm = true) : CallR X (.builtin "any") (fun xs H Q => ∃ (p : Addr) (bs : List Bool), xs = [.ref p] ∧ H p = some (.lst (bs.map V.bl)) ∧ Q (.bl (bs.any id)) H) := by
  intro pins s σ H xs us Q I r h
  obtain ⟨p, bs, e, hp, q⟩ := h
  subst e
  obtain ⟨u, rfl, ru⟩ := vals1 r
  obtain rfl : u = Value.ref p := ru
  obtain ⟨z, its, n, rv, hl, ho⟩ := I.lstM hp
  have ei := vals_bl rv
  have hI : s.heap.IsList p its.toArray := ⟨_, ho, rfl, n, rfl⟩
  have hne : p ≠ s.heap.objs.size := Nat.ne_of_lt (Heap.lt_size ho)
  refine call_any_walk (wpAny_pyIter_list hI ?_)
  refine ⟨s.heap.objs.size, _, _, _, _, _, fun i => bs.getD i true, rfl, Walks.list (A := X.A.in1) (I.ok.hd hc) s.heap.objs.size p hne its.toArray, ⟨⟨_, Heap.get?_push_size _ rfl, rfl, rfl⟩, ⟨_, Heap.get?_push_of_some _ ho, rfl, n, rfl⟩⟩, ?_, fun h' tk hk => ?_⟩
  · intro i v s' Q' E' hP hQ
    have hP' : its[i]? = some v := by simpa using hP
    rw [ei, List.getElem?_map] at hP'
    cases e : bs[i]? with
    | none => rw [e] at hP'; cases hP'
    | some b' =>
      rw [e] at hP'
      have ev : Value.bool b' = v := Option.some.inj hP'
      subst ev
      refine wpAny_truthy_bool ?_
      have : bs.getD i true = b' := by simp [List.getD_eq_getElem?_getD, e]
      dsimp only at hQ
      rw [this] at hQ
      exact hQ
  · rw [range_any (by rw [List.size_toArray, ei, List.length_map])]
    refine ⟨.bl _, H, ?_, rfl, q⟩
    exact I.kept (h' := h') (t' := tk) fun b o e => hk b o (by simp; exact Nat.ne_of_lt (Heap.lt_size e)) (Heap.get?_push_of_some _ e)

/-! ### over a text -/
def Its (x : Str) : It := ⟨fun i _ => i < x.cps.size, fun i H v H' => H' = H ∧ ∃ c, x.cps[i]? = some c ∧ v = .str ⟨#[c]⟩, fun i _ => x.cps.size ≤ i⟩
def iStr (tl : TE) : TI := fun σ H R => tl σ H fun x H1 => ∃ z, x = .str z ∧ R (Its z) H1

theorem turn_strA {P : Program} {w : World} {K : PySem.W.Frag} {tg : Expr} (it : Addr) (x : Str) (t : Tok) : Turn P w K tg (Its x) [it] it (fun i h => h.IsStrIter it "str_ascii_iterator" x t i) where
  mem := by simp
  obj := fun i h st b hb => by
    have e : b = it := by simpa using hb
    subst e
    obtain ⟨o, e, c, d⟩ := st
    exact ⟨o, e, fun v z => by rw [d] at z; cases z⟩
  keep := fun i h h' st k => by obtain ⟨o, e, r⟩ := st; exact ⟨o, k it (by simp) o e, r⟩
  item := by
    intro X hP hw hK hc i pins s σ H E I hf st hg
    subst hP hw hK
    have hg' : i < x.cps.size := hg
    obtain ⟨f0, f1, f2, f3, f4, f5⟩ := hf it (by simp)
    refine wpAny_pyNext_ascii_item st (c := x.cps[i]) (by simp [hg']) fun h' st' sb => ?_
    have I1 : Inv X pins σ H { s with heap := h', toks := s.toks + 1 } := I.turned (fun b o hb e => (sb.2 b hb).trans e) f0 f1 f3 f4 f5
    refine ⟨_, rfl, ?_⟩
    have fin : ∃ y H', Inv X pins σ H' { s with heap := h', toks := s.toks + 1 } ∧ RelV y (.str ⟨#[x.cps[i]]⟩ s.toks) ∧ (Its x).yld i H y H' ∧ h'.IsStrIter it "str_ascii_iterator" x t (i + 1) ∧ ∀ b ∈ [it], H' b = none :=
      ⟨.str ⟨#[x.cps[i]]⟩, H, I1, ⟨_, rfl⟩, ⟨rfl, x.cps[i], by simp [hg'], rfl⟩, st', fun b hb => (hf b hb).1⟩
    unfold letOwnedTupleGo
    cases tg <;> exact wpAny_pure fin
  done := by
    intro X hP hw hK hc i pins s σ H E I hf st hg
    subst hP hw hK
    have hg' : x.cps.size ≤ i := hg
    obtain ⟨f0, f1, f2, f3, f4, f5⟩ := hf it (by simp)
    exact wpAny_pyNext_ascii_end (I.ok.hd hc) st (by simp [hg']) fun h' eb => ⟨rfl, I.turned (t' := s.toks) (fun b o hb e => eb b o hb e) f0 f1 f3 f4 f5⟩
  self := fun _ _ _ _ _ st h => wpAny_pyIter_striter_ascii st h
theorem turn_strW {P : Program} {w : World} {K : PySem.W.Frag} {tg : Expr} (it : Addr) (x : Str) (t : Tok) : Turn P w K tg (Its x) [it] it (fun i h => h.IsStrIter it "str_iterator" x t i) where
  mem := by simp
  obj := fun i h st b hb => by
    have e : b = it := by simpa using hb
    subst e
    obtain ⟨o, e, c, d⟩ := st
    exact ⟨o, e, fun v z => by rw [d] at z; cases z⟩
  keep := fun i h h' st k => by obtain ⟨o, e, r⟩ := st; exact ⟨o, k it (by simp) o e, r⟩
  item := by
    intro X hP hw hK hc i pins s σ H E I hf st hg
    subst hP hw hK
    have hg' : i < x.cps.size := hg
    obtain ⟨f0, f1, f2, f3, f4, f5⟩ := hf it (by simp)
    refine wpAny_pyNext_wide_item st (c := x.cps[i]) (by simp [hg']) fun h' st' sb => ?_
    have I1 : Inv X pins σ H { s with heap := h', toks := s.toks + 1 } := I.turned (fun b o hb e => (sb.2 b hb).trans e) f0 f1 f3 f4 f5
    refine ⟨_, rfl, ?_⟩
    have fin : ∃ y H', Inv X pins σ H' { s with heap := h', toks := s.toks + 1 } ∧ RelV y (.str ⟨#[x.cps[i]]⟩ s.toks) ∧ (Its x).yld i H y H' ∧ h'.IsStrIter it "str_iterator" x t (i + 1) ∧ ∀ b ∈ [it], H' b = none :=
      ⟨.str ⟨#[x.cps[i]]⟩, H, I1, ⟨_, rfl⟩, ⟨rfl, x.cps[i], by simp [hg'], rfl⟩, st', fun b hb => (hf b hb).1⟩
    unfold letOwnedTupleGo
    cases tg <;> exact wpAny_pure fin
  done := by
    intro X hP hw hK hc i pins s σ H E I hf st hg
    subst hP hw hK
    have hg' : x.cps.size ≤ i := hg
    obtain ⟨f0, f1, f2, f3, f4, f5⟩ := hf it (by simp)
    exact wpAny_pyNext_wide_end (I.ok.hd hc) st (by simp [hg']) fun h' eb => ⟨rfl, I.turned (t' := s.toks) (fun b o hb e => eb b o hb e) f0 f1 f3 f4 f5⟩
  self := fun _ _ _ _ _ st h => wpAny_pyIter_striter_wide st h
theorem pi_str {l tg : Expr} {tl : TE} (hl : PE X l tl) : PI X tg l (iStr tl) := by
  intro pins s σ H R I h
  refine thn (hl pins s σ H _ I h) fun v s1 ⟨x, H1, I1, r1, q1⟩ => ?_
  obtain ⟨z, e, q⟩ := q1
  subst e
  obtain ⟨t, rfl⟩ := r1
  have fp : ∀ b ∈ [s1.heap.objs.size], FpOk X pins H1 b := fun b hb => by
    have e : b = s1.heap.objs.size := by simpa using hb
    rw [e]
    exact I1.fpOk (Nat.le_refl _) (I1.hok.fresh (Nat.le_refl _))
  cases ha : z.cps.all (· < 128)
  · exact wpAny_pyIter_wide ha ⟨s1.heap.objs.size, [s1.heap.objs.size], _, Its z, H1, rfl, I1.kept (t' := s1.toks) fun b o e => Heap.get?_push_of_some _ e, turn_strW _ z t, ⟨_, Heap.get?_push_size _ rfl, rfl, rfl⟩, fp, q⟩
  · exact wpAny_pyIter_ascii ha ⟨s1.heap.objs.size, [s1.heap.objs.size], _, Its z, H1, rfl, I1.kept (t' := s1.toks) fun b o e => Heap.get?_push_of_some _ e, turn_strA _ z t, ⟨_, Heap.get?_push_size _ rfl, rfl, rfl⟩, fp, q⟩

/-! ### texts: slices, join -/
def rSlS : V → Option Int → Option Int → Hp → VK → Prop := fun x lo hi H Q => ∃ z, x = .str z ∧ z.length ≤ sizeLine ∧ Q (.str (Txt.slice z lo hi)) H
theorem sl_str : SlR X rSlS := by
  intro pins s σ H x v vl vu lo hi sl Q I rx hs pl pu h
  obtain ⟨z, rfl, hz, q⟩ := h
  obtain ⟨t, rfl⟩ := rx
  refine ⟨"str", _, F.slot_str_getitem.lookup, typeIs_str _ _ _, ?_⟩
  have fin : ∀ t' k, EP X pins σ Q (.str (Txt.slice z lo hi) t') { s with toks := k } := fun t' k => ⟨.str _, H, I.tok _, ⟨_, rfl⟩, q⟩
  obtain ⟨os, e1, e2, e3⟩ := hs
  cases pl with
  | none =>
    cases pu with
    | none => exact wpAny_getItem_str_slice (l := none) (u := none) (st := none) ⟨os, e1, e2, e3⟩ rfl (post_val_or_str ⟨Nat.le_trans (Txt.slice_le z _ _) hz, fin⟩)
    | int j u => exact wpAny_getItem_str_slice (l := none) (u := some (j, u)) (st := none) ⟨os, e1, e2, e3⟩ rfl (post_val_or_str ⟨Nat.le_trans (Txt.slice_le z _ _) hz, fin⟩)
  | int i t2 =>
    cases pu with
    | none => exact wpAny_getItem_str_slice (l := some (i, t2)) (u := none) (st := none) ⟨os, e1, e2, e3⟩ rfl (post_val_or_str ⟨Nat.le_trans (Txt.slice_le z _ _) hz, fin⟩)
    | int j u => exact wpAny_getItem_str_slice (l := some (i, t2)) (u := some (j, u)) (st := none) ⟨os, e1, e2, e3⟩ rfl (post_val_or_str ⟨Nat.le_trans (Txt.slice_le z _ _) hz, fin⟩)
theorem strsAre_of {ys : List Str} : ∀ {us : List Value}, Vals (ys.map V.str) us → StrsAre us ys := by
  induction ys with
  | nil => intro us r; rw [List.map_nil] at r; cases r; exact .nil
  | cons n ns ih =>
    intro us r
    rw [List.map_cons] at r
    cases r with
    | cons r1 r2 =>
      obtain ⟨t, e⟩ := r1
      subst e
      exact .cons n t (ih r2)
theorem mt_join : MtR X "str.join" (fun x xs H Q => ∃ (z : Str) (p : Addr) (ys : List Str), x = .str z ∧ xs = [.ref p] ∧ H p = some (.lst (ys.map V.str)) ∧ (ys.map (·.length)).sum + ys.length * z.length ≤ 16777216 ∧ Q (.str (Txt.join z ys)) H) := by
  intro pins s σ H x xs v us Q I rx rs h
  obtain ⟨z, p, ys, rfl, rfl, hp, hz, q⟩ := h
  obtain ⟨t, rfl⟩ := rx
  obtain ⟨u, rfl, ru⟩ := rs.one
  obtain rfl : u = Value.ref p := ru
  obtain ⟨_, its, n, rv, hl, ho⟩ := I.lstM hp
  refine join_list (items := its.toArray) (ys := ys) ⟨_, ho, rfl, n, rfl⟩ (by simpa using strsAre_of rv) hz fun t' k => ⟨.str _, H, I.tok _, ⟨_, rfl⟩, q⟩
end
end L2

set_option Elab.async false
set_option linter.all false
set_option maxRecDepth 100000
namespace L2
open PySem PySem.Spec PyProof.Rows
/-! ### data of any depth -/
inductive D where
  | non | bl (b : Bool) | int (i : Int) | str (x : Str) | tup (ds : List D) | lst (ds : List D)
mutual
def Rep (H : Hp) : D → V → Prop
  | .non, v => v = .non
  | .bl b, v => v = .bl b
  | .int i, v => v = .int i
  | .str x, v => v = .str x
  | .tup ds, v => ∃ a xs, v = .ref a ∧ H a = some (.tup xs) ∧ Reps H ds xs
  | .lst ds, v => ∃ a xs, v = .ref a ∧ H a = some (.lst xs) ∧ Reps H ds xs
def Reps (H : Hp) : List D → List V → Prop
  | [], xs => xs = []
  | d :: ds, xs => ∃ x r, xs = x :: r ∧ Rep H d x ∧ Reps H ds r
end
mutual
def deq : D → D → Bool
  | .non, .non => true
  | .bl a, .bl b => a == b
  | .bl a, .int j => (if a then (1 : Int) else 0) == j
  | .int i, .bl b => i == (if b then (1 : Int) else 0)
  | .int i, .int j => i == j
  | .str x, .str y => x == y
  | .tup a, .tup b => deqs a b
  | .lst a, .lst b => deqs a b
  | _, _ => false
def deqs : List D → List D → Bool
  | [], [] => true
  | x :: xs, y :: ys => deq x y && deqs xs ys
  | _, _ => false
end
mutual
def D.deep : D → Nat
  | .tup ds => D.deeps ds + 1
  | .lst ds => D.deeps ds + 1
  | _ => 0
def D.deeps : List D → Nat
  | [] => 0
  | d :: ds => max d.deep (D.deeps ds)
end
mutual
theorem deq_refl : ∀ d : D, deq d d = true
  | .non => by simp [deq]
  | .bl _ => by simp [deq]
  | .int _ => by simp [deq]
  | .str _ => by simp [deq]
  | .tup ds => by simp [deq, deqs_refl ds]
  | .lst ds => by simp [deq, deqs_refl ds]
theorem deqs_refl : ∀ ds : List D, deqs ds ds = true
  | [] => by simp [deqs]
  | d :: ds => by simp [deqs, deq_refl d, deqs_refl ds]
end
mutual
theorem Rep.inj {H : Hp} : ∀ {d d' : D} {v : V}, Rep H d v → Rep H d' v → d = d'
  | .non, d', v, h, h' => by
    cases (show v = .non from h)
    cases d' <;> simp_all [Rep]
  | .bl b, d', v, h, h' => by
    cases (show v = .bl b from h)
    cases d' <;> simp_all [Rep]
  | .int b, d', v, h, h' => by
    cases (show v = .int b from h)
    cases d' <;> simp_all [Rep]
  | .str b, d', v, h, h' => by
    cases (show v = .str b from h)
    cases d' <;> simp_all [Rep]
  | .tup ds, d', v, h, h' => by
    obtain ⟨a, xs, rfl, ha, hs⟩ := h
    cases d' with
    | tup ds' =>
      obtain ⟨a', xs', e, ha', hs'⟩ := h'
      cases e
      rw [ha] at ha'; cases ha'
      rw [Reps.inj hs hs']
    | lst ds' =>
      obtain ⟨a', xs', e, ha', hs'⟩ := h'
      cases e
      rw [ha] at ha'; cases ha'
    | _ => cases (show V.ref a = _ from h')
  | .lst ds, d', v, h, h' => by
    obtain ⟨a, xs, rfl, ha, hs⟩ := h
    cases d' with
    | lst ds' =>
      obtain ⟨a', xs', e, ha', hs'⟩ := h'
      cases e
      rw [ha] at ha'; cases ha'
      rw [Reps.inj hs hs']
    | tup ds' =>
      obtain ⟨a', xs', e, ha', hs'⟩ := h'
      cases e
      rw [ha] at ha'; cases ha'
    | _ => cases (show V.ref a = _ from h')
theorem Reps.inj {H : Hp} : ∀ {ds ds' : List D} {xs : List V}, Reps H ds xs → Reps H ds' xs → ds = ds'
  | [], ds', xs, h, h' => by
    cases (show xs = [] from h)
    cases ds' with
    | nil => rfl
    | cons d r => obtain ⟨x, r', e, _⟩ := h'; cases e
  | d :: ds, ds', xs, h, h' => by
    obtain ⟨x, r, rfl, h1, h2⟩ := h
    cases ds' with
    | nil => cases (show x :: r = [] from h')
    | cons d2 r2 =>
      obtain ⟨x', r', e, h1', h2'⟩ := h'
      cases e
      rw [Rep.inj h1 h1', Reps.inj h2 h2']
end
theorem Reps.length {H : Hp} : ∀ {ds : List D} {xs : List V}, Reps H ds xs → ds.length = xs.length
  | [], xs, h => by cases (show xs = [] from h); rfl
  | d :: ds, xs, h => by
    obtain ⟨x, r, rfl, _, h2⟩ := h
    simp [Reps.length h2]
theorem Reps.get {H : Hp} : ∀ {ds : List D} {xs : List V} {j : Nat} {x : V}, Reps H ds xs → xs[j]? = some x → ∃ d, ds[j]? = some d ∧ Rep H d x
  | [], xs, j, x, h, e => by cases (show xs = [] from h); simp at e
  | d :: ds, xs, 0, x, h, e => by
    obtain ⟨y, r, rfl, h1, h2⟩ := h
    simp at e; subst e
    exact ⟨d, rfl, h1⟩
  | d :: ds, xs, j + 1, x, h, e => by
    obtain ⟨y, r, rfl, h1, h2⟩ := h
    obtain ⟨d', e', h'⟩ := Reps.get (j := j) h2 (by simpa using e)
    exact ⟨d', by simpa using e', h'⟩
theorem Reps.get' {H : Hp} : ∀ {ds : List D} {xs : List V} {j : Nat} {d : D}, Reps H ds xs → ds[j]? = some d → ∃ x, xs[j]? = some x ∧ Rep H d x
  | [], xs, j, x, h, e => by simp at e
  | d :: ds, xs, 0, x, h, e => by
    obtain ⟨y, r, rfl, h1, h2⟩ := h
    simp at e; subst e
    exact ⟨y, rfl, h1⟩
  | d :: ds, xs, j + 1, x, h, e => by
    obtain ⟨y, r, rfl, h1, h2⟩ := h
    obtain ⟨d', e', h'⟩ := Reps.get' (j := j) h2 (by simpa using e)
    exact ⟨d', by simpa using e', h'⟩
theorem deep_mem : ∀ {ds : List D} {d : D} {j : Nat}, ds[j]? = some d → d.deep ≤ D.deeps ds
  | [], _, _, h => by simp at h
  | d :: ds, e, 0, h => by simp at h; subst h; simp [D.deeps]; omega
  | d :: ds, e, j + 1, h => by
    have := deep_mem (ds := ds) (j := j) (by simpa using h)
    simp [D.deeps]; omega
theorem deqs_range : ∀ {ds ds' : List D}, ((List.range (min ds.length ds'.length)).all (fun j => deq (ds.getD j .non) (ds'.getD j .non)) && (ds.length == ds'.length)) = deqs ds ds'
  | [], [] => by simp [deqs]
  | [], _ :: _ => by simp [deqs]
  | _ :: _, [] => by simp [deqs]
  | d :: ds, d' :: ds' => by
    have ih := deqs_range (ds := ds) (ds' := ds')
    have e : min (d :: ds).length (d' :: ds').length = min ds.length ds'.length + 1 := by simp
    rw [e, List.range_succ_eq_map, List.all_cons, List.all_map]
    simp only [deqs]
    rw [← ih]
    simp [Function.comp_def, Bool.and_assoc]
section
open PySem.SeqAt
variable {X : Cx} {pins : List (Addr × Obj)} {σ : St} {H : Hp} {s : Shared}
theorem Inv.tupD (I : Inv X pins σ H s) {a : Addr} {xs : List V} (h : H a = some (.tup xs)) : ∃ its : List Value, Vals xs its ∧ s.heap.IsTuple a its.toArray := by
  obtain ⟨its, r, t, _⟩ := I.tuple (SqT.of h)
  exact ⟨its, r, t⟩
theorem Inv.lstD (I : Inv X pins σ H s) {a : Addr} {xs : List V} (h : H a = some (.lst xs)) : ∃ its : List Value, Vals xs its ∧ s.heap.IsList a its.toArray := by
  obtain ⟨its, r, t, _⟩ := I.list (SqL.of h)
  exact ⟨its, r, t.isList⟩
/-- the parts' answers give the wholes' -/
theorem seq_items {A : Around} {xs ys : List V} {its its2 : List Value} {ds ds' : List D} (rv : Vals xs its) (rv2 : Vals ys its2) (hx : Reps H ds xs) (hy : Reps H ds' ys)
    (ih : ∀ (j : Nat) d d' x y u v, ds[j]? = some d → ds'[j]? = some d' → Rep H d x → Rep H d' y → RelV x u → RelV y v → EqAt A s u v (deq d d')) :
    ∀ j (h1 : j < its.toArray.size) (h2 : j < its2.toArray.size), EqAt A s its.toArray[j] its2.toArray[j] (deq (ds.getD j .non) (ds'.getD j .non)) := by
  intro j h1 h2
  have l1 := rv.length
  have l2 := rv2.length
  have k1 := hx.length
  have k2 := hy.length
  have h1' : j < its.length := by simpa using h1
  have h2' : j < its2.length := by simpa using h2
  have j1 : j < ds.length := by omega
  have j2 : j < ds'.length := by omega
  obtain ⟨x, ex, rx⟩ := hx.get' (j := j) (d := ds[j]) (by simp [j1])
  obtain ⟨y, ey, ry⟩ := hy.get' (j := j) (d := ds'[j]) (by simp [j2])
  obtain ⟨u, eu, ru⟩ := rv.get ex
  obtain ⟨v, ev, rv'⟩ := rv2.get ey
  have e1 : its.toArray[j] = u := by
    have : its[j]? = some its[j] := by simp [h1']
    rw [this] at eu
    simpa using Option.some.inj eu
  have e2 : its2.toArray[j] = v := by
    have : its2[j]? = some its2[j] := by simp [h2']
    rw [this] at ev
    simpa using Option.some.inj ev
  have e3 : ds.getD j .non = ds[j] := by simp [List.getD_eq_getElem?_getD, j1]
  have e4 : ds'.getD j .non = ds'[j] := by simp [List.getD_eq_getElem?_getD, j2]
  rw [e1, e2, e3, e4]
  exact ih j _ _ x y u v (by simp [j1]) (by simp [j2]) rx ry ru rv'
theorem rc_and_eq (I : Inv X pins σ H s) : ∀ (n : Nat) (A : Around) (d d' : D) (x y : V) (u v : Value), d.deep ≤ n → A.units + n < cLine → Rep H d x → Rep H d' y → RelV x u → RelV y v →
    RcAt A s u v (deq d d') ∧ EqAt A s u v (deq d d') := by
  intro n
  induction n with
  | zero =>
    intro A d d' x y u v hd hu hx hy ru rv
    have hu' : A.units < cLine := by omega
    cases d with
    | tup ds => simp [D.deep] at hd
    | lst ds => simp [D.deep] at hd
    | non =>
      cases (show x = .non from hx); cases ru
      cases d' with
      | non => cases (show y = .non from hy); cases rv; simp only [deq]; exact ⟨RcAt.none_none, EqAt.same _⟩
      | bl b => cases (show y = .bl b from hy); cases rv; simp only [deq]; exact ⟨RcAt.none_bool b, EqAt.none_bool b⟩
      | int i => cases (show y = .int i from hy); obtain ⟨t, rfl⟩ := rv; simp only [deq]; exact ⟨RcAt.none_int i t, EqAt.none_int i t⟩
      | str i => cases (show y = .str i from hy); obtain ⟨t, rfl⟩ := rv; simp only [deq]; exact ⟨RcAt.none_str i t, EqAt.none_str i t⟩
      | tup ds => obtain ⟨a, xs, rfl, ha, _⟩ := hy; cases rv; obtain ⟨its, r, ht⟩ := I.tupD ha; simp only [deq]; exact ⟨RcAt.none_tuple ht hu', EqAt.none_tuple ht hu'⟩
      | lst ds => obtain ⟨a, xs, rfl, ha, _⟩ := hy; cases rv; obtain ⟨its, r, ht⟩ := I.lstD ha; simp only [deq]; exact ⟨RcAt.none_list ht hu', EqAt.none_list ht hu'⟩
    | bl a =>
      cases (show x = .bl a from hx); cases ru
      cases d' with
      | non => cases (show y = .non from hy); cases rv; simp only [deq]; exact ⟨RcAt.bool_none a, EqAt.bool_none a⟩
      | bl b => cases (show y = .bl b from hy); cases rv; simp only [deq]; exact ⟨RcAt.bool_bool a b, EqAt.bool_bool a b⟩
      | int i => cases (show y = .int i from hy); obtain ⟨t, rfl⟩ := rv; simp only [deq]; exact ⟨RcAt.bool_int a i t, EqAt.bool_int a i t⟩
      | str i => cases (show y = .str i from hy); obtain ⟨t, rfl⟩ := rv; simp only [deq]; exact ⟨RcAt.bool_str a i t, EqAt.bool_str a i t⟩
      | tup ds => obtain ⟨a', xs, rfl, ha, _⟩ := hy; cases rv; obtain ⟨its, r, ht⟩ := I.tupD ha; simp only [deq]; exact ⟨RcAt.bool_tuple a ht hu', EqAt.bool_tuple a ht hu'⟩
      | lst ds => obtain ⟨a', xs, rfl, ha, _⟩ := hy; cases rv; obtain ⟨its, r, ht⟩ := I.lstD ha; simp only [deq]; exact ⟨RcAt.bool_list a ht hu', EqAt.bool_list a ht hu'⟩
    | int a =>
      cases (show x = .int a from hx); obtain ⟨ta, rfl⟩ := ru
      cases d' with
      | non => cases (show y = .non from hy); cases rv; simp only [deq]; exact ⟨RcAt.int_none a ta, EqAt.int_none a ta⟩
      | bl b => cases (show y = .bl b from hy); cases rv; simp only [deq]; exact ⟨RcAt.int_bool a ta b, EqAt.int_bool a ta b⟩
      | int i => cases (show y = .int i from hy); obtain ⟨t, rfl⟩ := rv; simp only [deq]; exact ⟨RcAt.int_int a ta i t, EqAt.int_int a ta i t⟩
      | str i => cases (show y = .str i from hy); obtain ⟨t, rfl⟩ := rv; simp only [deq]; exact ⟨RcAt.int_str a ta i t, EqAt.int_str a ta i t⟩
      | tup ds => obtain ⟨a', xs, rfl, ha, _⟩ := hy; cases rv; obtain ⟨its, r, ht⟩ := I.tupD ha; simp only [deq]; exact ⟨RcAt.int_tuple a ta ht hu', EqAt.int_tuple a ta ht hu'⟩
      | lst ds => obtain ⟨a', xs, rfl, ha, _⟩ := hy; cases rv; obtain ⟨its, r, ht⟩ := I.lstD ha; simp only [deq]; exact ⟨RcAt.int_list a ta ht hu', EqAt.int_list a ta ht hu'⟩
    | str a =>
      cases (show x = .str a from hx); obtain ⟨ta, rfl⟩ := ru
      cases d' with
      | non => cases (show y = .non from hy); cases rv; simp only [deq]; exact ⟨RcAt.str_none a ta, EqAt.str_none a ta⟩
      | bl b => cases (show y = .bl b from hy); cases rv; simp only [deq]; exact ⟨RcAt.str_bool a ta b, EqAt.str_bool a ta b⟩
      | int i => cases (show y = .int i from hy); obtain ⟨t, rfl⟩ := rv; simp only [deq]; exact ⟨RcAt.str_int a ta i t, EqAt.str_int a ta i t⟩
      | str i => cases (show y = .str i from hy); obtain ⟨t, rfl⟩ := rv; simp only [deq]; exact ⟨RcAt.str_str a ta i t, EqAt.str_str a ta i t⟩
      | tup ds => obtain ⟨a', xs, rfl, ha, _⟩ := hy; cases rv; obtain ⟨its, r, ht⟩ := I.tupD ha; simp only [deq]; exact ⟨RcAt.str_tuple a ta ht hu', EqAt.str_tuple a ta ht hu'⟩
      | lst ds => obtain ⟨a', xs, rfl, ha, _⟩ := hy; cases rv; obtain ⟨its, r, ht⟩ := I.lstD ha; simp only [deq]; exact ⟨RcAt.str_list a ta ht hu', EqAt.str_list a ta ht hu'⟩
  | succ n ih =>
    intro A d d' x y u v hd hu hx hy ru rv
    have hu' : A.units < cLine := by omega
    have hin : A.in1.units + n < cLine := by show A.units + 1 + n < cLine; omega
    by_cases h0 : d.deep ≤ n
    · exact ih A d d' x y u v h0 (by omega) hx hy ru rv
    cases d with
    | tup ds =>
      have hds : D.deeps ds ≤ n := by simp [D.deep] at hd; exact hd
      obtain ⟨a, xs, rfl, ha, hs⟩ := id hx
      cases ru
      obtain ⟨its, r, ht⟩ := I.tupD ha
      cases d' with
      | non => cases (show y = .non from hy); cases rv; simp only [deq]; exact ⟨RcAt.tuple_none ht hu', EqAt.tuple_none ht hu'⟩
      | bl b => cases (show y = .bl b from hy); cases rv; simp only [deq]; exact ⟨RcAt.tuple_bool b ht hu', EqAt.tuple_bool b ht hu'⟩
      | int i => cases (show y = .int i from hy); obtain ⟨t, rfl⟩ := rv; simp only [deq]; exact ⟨RcAt.tuple_int i t ht hu', EqAt.tuple_int i t ht hu'⟩
      | str i => cases (show y = .str i from hy); obtain ⟨t, rfl⟩ := rv; simp only [deq]; exact ⟨RcAt.tuple_str i t ht hu', EqAt.tuple_str i t ht hu'⟩
      | lst ds' => obtain ⟨a', xs', rfl, ha', _⟩ := hy; cases rv; obtain ⟨its', r', ht'⟩ := I.lstD ha'; simp only [deq]; exact ⟨RcAt.tuple_list ht ht' hu', EqAt.tuple_list ht ht' hu'⟩
      | tup ds' =>
        obtain ⟨a', xs', rfl, ha', hs'⟩ := id hy
        cases rv
        obtain ⟨its', r', ht'⟩ := I.tupD ha'
        have rc : RcAt A s (.ref a) (.ref a') (deq (.tup ds) (.tup ds')) := by
          have z := RcAt.tuples (A := A) (s := s) (e := fun j => deq (ds.getD j .non) (ds'.getD j .non)) ht ht' hu' (seq_items r r' hs hs' fun j e e' x y u v h1 h2 h3 h4 h5 h6 => (ih A.in1 e e' x y u v (Nat.le_trans (deep_mem h1) hds) hin h3 h4 h5 h6).2)
          have e1 : its.toArray.size = ds.length := by rw [List.size_toArray, ← r.length, hs.length]
          have e2 : its'.toArray.size = ds'.length := by rw [List.size_toArray, ← r'.length, hs'.length]
          rw [e1, e2, deqs_range] at z
          simp only [deq]
          exact z
        refine ⟨rc, ?_⟩
        by_cases hne : a = a'
        · subst hne
          have : D.tup ds = D.tup ds' := Rep.inj hx hy
          rw [← this, deq_refl]
          exact EqAt.same _
        · exact EqAt.of_refs hne rc
    | lst ds =>
      have hds : D.deeps ds ≤ n := by simp [D.deep] at hd; exact hd
      obtain ⟨a, xs, rfl, ha, hs⟩ := id hx
      cases ru
      obtain ⟨its, r, ht⟩ := I.lstD ha
      cases d' with
      | non => cases (show y = .non from hy); cases rv; simp only [deq]; exact ⟨RcAt.list_none ht hu', EqAt.list_none ht hu'⟩
      | bl b => cases (show y = .bl b from hy); cases rv; simp only [deq]; exact ⟨RcAt.list_bool b ht hu', EqAt.list_bool b ht hu'⟩
      | int i => cases (show y = .int i from hy); obtain ⟨t, rfl⟩ := rv; simp only [deq]; exact ⟨RcAt.list_int i t ht hu', EqAt.list_int i t ht hu'⟩
      | str i => cases (show y = .str i from hy); obtain ⟨t, rfl⟩ := rv; simp only [deq]; exact ⟨RcAt.list_str i t ht hu', EqAt.list_str i t ht hu'⟩
      | tup ds' => obtain ⟨a', xs', rfl, ha', _⟩ := hy; cases rv; obtain ⟨its', r', ht'⟩ := I.tupD ha'; simp only [deq]; exact ⟨RcAt.list_tuple ht ht' hu', EqAt.list_tuple ht ht' hu'⟩
      | lst ds' =>
        obtain ⟨a', xs', rfl, ha', hs'⟩ := id hy
        cases rv
        obtain ⟨its', r', ht'⟩ := I.lstD ha'
        have e1 : its.toArray.size = ds.length := by rw [List.size_toArray, ← r.length, hs.length]
        have e2 : its'.toArray.size = ds'.length := by rw [List.size_toArray, ← r'.length, hs'.length]
        have rc : RcAt A s (.ref a) (.ref a') (deq (.lst ds) (.lst ds')) := by
          simp only [deq]
          by_cases hl : ds.length = ds'.length
          · have z := RcAt.lists (A := A) (s := s) (e := fun j => deq (ds.getD j .non) (ds'.getD j .non)) ht ht' (by rw [e1, e2]; exact hl) hu' (seq_items r r' hs hs' fun j e e' x y u v h1 h2 h3 h4 h5 h6 => (ih A.in1 e e' x y u v (Nat.le_trans (deep_mem h1) hds) hin h3 h4 h5 h6).2)
            have q := deqs_range (ds := ds) (ds' := ds')
            rw [← hl, Nat.min_self, beq_self_eq_true, Bool.and_true] at q
            rw [e1, q] at z
            exact z
          · have z := RcAt.lists_lengths (A := A) (s := s) ht ht' (by rw [e1, e2]; simpa using hl) hu'
            have q := deqs_range (ds := ds) (ds' := ds')
            rw [show (ds.length == ds'.length) = false from beq_eq_false_iff_ne.mpr hl, Bool.and_false] at q
            rw [← q]
            exact z
        refine ⟨rc, ?_⟩
        by_cases hne : a = a'
        · subst hne
          have : D.lst ds = D.lst ds' := Rep.inj hx hy
          rw [← this, deq_refl]
          exact EqAt.same _
        · exact EqAt.of_refs hne rc
    | _ => exact absurd (by simp [D.deep]) h0
/-- x == y, x != y of data -/
def rEqD : R2 := fun x y H Q => ∃ d d', Rep H d x ∧ Rep H d' y ∧ d.deep ≤ 150 ∧ Q (.bl (deq d d')) H
theorem op_eqD (hu : X.A.units + 150 < cLine) : OpR X (compareOp .Eq) rEqD := by
  intro pins s σ H x y v u Q I rx ry h
  obtain ⟨d, d', h1, h2, h3, q⟩ := h
  exact (rc_and_eq I 150 X.A d d' x y v u h3 hu h1 h2 rx ry).1 X.prog X.w X.xe _ ⟨.bl _, H, I, rfl, q⟩
end
end L2

set_option Elab.async false
set_option linter.all false
set_option maxRecDepth 100000
namespace L2
open PySem PySem.Spec PyProof.Rows
section
variable {X : Cx} {a b : Expr} {ta tb : TE} {pos : Pos}
def rAddA : R2 := fun x y H Q => rI0 (fun i j => .int (i + j)) x y H Q ∨ (∃ i j, x = .str i ∧ y = .str j ∧ i.length + j.length ≤ sizeLine ∧ Q (.str (i ++ j)) H) ∨ rCat x y H Q ∨
  (∃ a b xs ys, x = .ref a ∧ y = .ref b ∧ H a = some (.tup xs) ∧ H b = some (.tup ys) ∧ xs ≠ [] ∧ ys ≠ [] ∧ xs.length + ys.length ≤ sizeLine ∧ ∀ p, H p = none → Q (.ref p) (upd H p (.tup (xs ++ ys))))
theorem op_addA : OpR X (binaryOp .Add) rAddA := by
  intro pins s σ H x y v u Q I rx ry h
  rcases h with h | h | h | h
  · exact op_add pins s σ H x y v u Q I rx ry h
  · exact op_add_str pins s σ H x y v u Q I rx ry h
  · exact op_cat pins s σ H x y v u Q I rx ry h
  · obtain ⟨a, b, xs, ys, rfl, rfl, h1, h2, h3, h4, h5, q⟩ := h
    refine op_catT pins s σ H _ _ v u Q I rx ry ⟨a, b, xs, ys, rfl, rfl, SqT.of h1, SqT.of h2, h3, h5, ?_⟩
    first
      | exact ⟨fun e => absurd e h4, fun _ => q⟩
      | exact fun p hp => q p hp
def rMulA : R2 := fun x y H Q => rI CMul (fun i j => .int (i * j)) x y H Q ∨ (∃ i j, x = .str i ∧ y = .int j ∧ (i.length ≤ 16 ∧ 0 ≤ j ∧ j ≤ 1000) ∧ Q (.str (Txt.mul i j)) H)
theorem op_mulA : OpR X (binaryOp .Mult) rMulA := op_mul.or op_mul_str
def rLtA : R2 := fun x y H Q => rI0 (fun i j => .bl (decide (i < j))) x y H Q ∨ ∃ i j, x = .str i ∧ y = .str j ∧ Q (.bl (decide (i.cps.toList < j.cps.toList))) H
theorem op_ltA : OpR X (compareOp .Lt) rLtA := op_lt.or op_lt_str
def rLeA : R2 := fun x y H Q => rI0 (fun i j => .bl (decide (i ≤ j))) x y H Q ∨ ∃ i j, x = .str i ∧ y = .str j ∧ Q (.bl (!decide (j.cps.toList < i.cps.toList))) H
theorem op_leA : OpR X (compareOp .LtE) rLeA := op_le.or op_le_str
def rGtA : R2 := fun x y H Q => rI0 (fun i j => .bl (decide (j < i))) x y H Q ∨ ∃ i j, x = .str i ∧ y = .str j ∧ Q (.bl (decide (j.cps.toList < i.cps.toList))) H
theorem op_gtA : OpR X (compareOp .Gt) rGtA := op_gt.or op_gt_str
def rGeA : R2 := fun x y H Q => rI0 (fun i j => .bl (decide (j ≤ i))) x y H Q ∨ ∃ i j, x = .str i ∧ y = .str j ∧ Q (.bl (!decide (i.cps.toList < j.cps.toList))) H
theorem op_geA : OpR X (compareOp .GtE) rGeA := op_ge.or op_ge_str
def rIsA : R2 := fun x y H Q => (y = .non ∧ Q (.bl (decide (x = .non))) H) ∨ ∃ i j, x = .bl i ∧ y = .bl j ∧ Q (.bl (i == j)) H
theorem op_isA : OpR X (compareOp .Is) rIsA := op_isN.or op_is_bl
def rIxA : R2 := fun x y H Q => rIxLd x y H Q ∨ rIxTd x y H Q ∨ rIxS x y H Q
theorem ix_any : IxR X rIxA := ix_ld.or (ix_td.or ix_str)
theorem comp_free (X : Cx) (scope : Scope) (h : (scope.names.all fun y => y.2 != .free || (X.env.kindOf y.1 == some .cell || X.env.kindOf y.1 == some .free)) = true) : ∀ y ∈ scope.names, y.2 = .free → X.env.kindOf y.1 = some .cell ∨ X.env.kindOf y.1 = some .free := by
  intro y hy e
  have := List.all_eq_true.mp h y hy
  rw [e] at this
  simpa using this
theorem comp_ix (X : Cx) (N' : List Str) (ix : List (Option Nat)) (scope : Scope) (h : ((List.range ix.length).all fun i => match ix[i]?, N'[i]? with
    | some (some j), some x => decide (X.N[j]? = some x) && decide (scope.names.lookup x = some .free)
    | _, _ => true) = true) : ∀ (i j : Nat) (x : Str), ix[i]? = some (some j) → N'[i]? = some x → X.N[j]? = some x ∧ scope.names.lookup x = some .free := by
  intro i j x h1 h2
  have hi : i < ix.length := (List.getElem?_eq_some_iff.mp h1).1
  have := List.all_eq_true.mp h i (List.mem_range.mpr hi)
  rw [h1, h2] at this
  simpa using this

/-! ### readings that compute -/
def rLen (xs : List V) (H : Hp) (Q : VK) : Prop := match xs with
  | [.str z] => z.length ≤ sizeLine ∧ Q (.int z.length) H
  | [.ref p] => ∃ ys, (H p = some (.lst ys) ∨ H p = some (.tup ys)) ∧ Q (.int ys.length) H
  | _ => False
theorem call_lenA : CallR X (.builtin "len") rLen := by
  intro pins s σ H xs us Q I r h
  unfold rLen at h
  split at h
  · exact call_len_str pins s σ H _ us Q I r ⟨_, rfl, h.1, h.2⟩
  · obtain ⟨ys, hp, q⟩ := h
    exact call_len_seq pins s σ H _ us Q I r ⟨_, ys, rfl, hp.imp SqL.of SqT.of, q⟩
  · exact h.elim
def tyName (x : V) (H : Hp) : String := match x with
  | .non => "NoneType"
  | .bl _ => "bool"
  | .int _ => "int"
  | .str _ => "str"
  | .ref a => match H a with
    | some (.lst _) => "list"
    | some (.tup _) => "tuple"
    | some (.dK _) => "dict"
    | _ => ""
  | _ => ""
def instB (t c : String) : Bool := t == c || (t == "bool" && c == "int")
def rInst (xs : List V) (H : Hp) (Q : VK) : Prop := match xs with
  | [x, .ty c] => tyName x H ≠ "" ∧ (c = "str" ∨ c = "int" ∨ c = "bool" ∨ c = "tuple" ∨ c = "list") ∧ Q (.bl (instB (tyName x H) c)) H
  | _ => False
theorem tyName_of {H : Hp} {x : V} {K : PySem.W.Frag} (h : tyName x H ≠ "") : TyOf K H x (.type (tyName x H)) ∧ (tyName x H = "NoneType" ∨ tyName x H = "bool" ∨ tyName x H = "int" ∨ tyName x H = "str" ∨ tyName x H = "list" ∨ tyName x H = "tuple" ∨ tyName x H = "dict") := by
  cases x with
  | non => exact ⟨.non, by simp [tyName]⟩
  | bl _ => exact ⟨.bl _, by simp [tyName]⟩
  | int _ => exact ⟨.int _, by simp [tyName]⟩
  | str _ => exact ⟨.str _, by simp [tyName]⟩
  | ref a =>
    unfold tyName at h ⊢
    dsimp only at h ⊢
    cases e : H a with
    | none => rw [e] at h; exact absurd rfl h
    | some o =>
      rw [e] at h
      cases o with
      | lst xs => exact ⟨.lst e, by simp⟩
      | tup xs => exact ⟨.tup e, by simp⟩
      | dK xs => exact ⟨.dK e, by simp⟩
      | _ => exact absurd rfl h
  | _ => exact absurd rfl h
theorem kit_instB (K : PySem.W.Frag) {t c : String} (ht : t = "NoneType" ∨ t = "bool" ∨ t = "int" ∨ t = "str" ∨ t = "list" ∨ t = "tuple" ∨ t = "dict") (hc : c = "str" ∨ c = "int" ∨ c = "bool" ∨ c = "tuple" ∨ c = "list") :
    PySem.W.kitOne K (.type t) (.type c) = some (instB t c) := by
  rcases ht with rfl | rfl | rfl | rfl | rfl | rfl | rfl <;> rcases hc with rfl | rfl | rfl | rfl | rfl <;> rfl
theorem call_inst : CallR X (.builtin "isinstance") rInst := by
  intro pins s σ H xs us Q I r h
  unfold rInst at h
  split at h
  · obtain ⟨h1, h2, q⟩ := h
    obtain ⟨ty, hn⟩ := tyName_of (K := X.K) h1
    exact call_isinst pins s σ H _ us Q I r ⟨_, _, _, _, rfl, ty, kit_instB X.K hn h2, q⟩
  · exact h.elim
theorem hu150 {A : Around} {k : Nat} (hr : Room k A) : A.units + 150 < cLine := by
  have := hr.un
  omega
def notStar : Expr → Bool
  | .Starred _ _ => false
  | _ => true
theorem star_cons {e : Expr} {es : List Expr} {env : Env} (h : notStar e = true) : starEach (e :: es) env = (false, eval e env) :: starEach es env := by
  cases e <;> first | rfl | cases h
theorem pa_c {e : Expr} {es : List Expr} {te : TE} {t : TA} (ha : PE X e te) (hr : PA X es t) (h : notStar e = true := by rfl) : PA X (e :: es) (tCons te t) := pa_cons ha hr (star_cons h)
end
/-! ### names by facts that are shown once -/
structure NmOk (sc : Scope) (x : Str) (k : NameKind) : Prop where
  lk : sc.names.lookup x = some k
  db : (x == ("__debug__" : Str)) = false
  cd : (x == ("__classdict__" : Str)) = false
  nn : x ≠ "__name__"
def VisK (k : NameKind) : Bool := match k with | .local => true | .cell => true | .free => true | _ => false
theorem relabel_lookup_glob {env : Env} {x : Str} : ∀ {names : List (Str × NameKind)}, names.lookup x = some .globalImplicit →
    (names.map fun (n, k) => if (k == NameKind.free && env.scope.kind == .function && env.kindOf n == some .cell) = true then (n, NameKind.cell) else (n, k)).lookup x = some .globalImplicit
  | [], h => by cases h
  | (n, k) :: r, h => by
    have ih := @relabel_lookup_glob env x r
    rw [List.map_cons]
    rw [List.lookup_cons] at h
    cases hx : x == n with
    | true =>
      rw [hx] at h
      have hk : k = .globalImplicit := Option.some.inj h
      subst hk
      have hc' : (if (NameKind.globalImplicit == NameKind.free && env.scope.kind == .function && env.kindOf n == some .cell) = true then (n, NameKind.cell) else (n, NameKind.globalImplicit)) = (n, NameKind.globalImplicit) := if_neg (by simp)
      simp only [hc', List.lookup_cons, hx]
    | false =>
      rw [hx] at h
      have q := ih h
      by_cases hc : (k == NameKind.free && env.scope.kind == .function && env.kindOf n == some .cell) = true
      · have hc' : (if (k == NameKind.free && env.scope.kind == .function && env.kindOf n == some .cell) = true then (n, NameKind.cell) else (n, k)) = (n, NameKind.cell) := if_pos hc
        simp only [hc', List.lookup_cons, hx]
        exact q
      · have hc' : (if (k == NameKind.free && env.scope.kind == .function && env.kindOf n == some .cell) = true then (n, NameKind.cell) else (n, k)) = (n, k) := if_neg hc
        simp only [hc', List.lookup_cons, hx]
        exact q
section
variable {X : Cx} {x : Str} {p pos : Pos} {e : Expr} {es : List Expr} {t : TA} {k : NameKind}
theorem pvk (i : Nat) (q : NmOk X.env.scope x k) (hN : X.N[i]? = some x := by rfl) (hk : VisK k = true := by rfl) : PE X (.Name x pos) (tVar i) :=
  pe_var hN (by cases k <;> first | exact .inl q.lk | exact .inr (.inl q.lk) | exact .inr (.inr q.lk) | exact absurd hk (by decide)) q.db q.cd
/-- the facts that a comprehension's block takes over -/
theorem NmOk.own {scope : Scope} {cl : List (Str × Addr)} {C : Addr} {s₀ : Shared} {H₀ : Hp} {fp : List Addr} {N' : List Str} (q : NmOk scope x .local) : NmOk (X.comp scope cl C s₀ H₀ fp N').env.scope x .local :=
  ⟨lookup_relabel_local q.lk, q.db, q.cd, q.nn⟩
theorem NmOk.glob {scope : Scope} {cl : List (Str × Addr)} {C : Addr} {s₀ : Shared} {H₀ : Hp} {fp : List Addr} {N' : List Str} (q : NmOk scope x .globalImplicit) : NmOk (X.comp scope cl C s₀ H₀ fp N').env.scope x .globalImplicit :=
  ⟨relabel_lookup_glob q.lk, q.db, q.cd, q.nn⟩
theorem pvf (i : Nat) {scope : Scope} {cl : List (Str × Addr)} {C : Addr} {s₀ : Shared} {H₀ : Hp} {fp : List Addr} {N' : List Str} (q : NmOk scope x .free) (hN : N'[i]? = some x := by rfl) : PE (X.comp scope cl C s₀ H₀ fp N') (.Name x pos) (tVar i) :=
  pe_var (X := X.comp scope cl C s₀ H₀ fp N') hN (by
    rcases relabel_lookup_free (env := X.env) q.lk with h | h
    · exact .inr (.inl h)
    · exact .inr (.inr h)) q.db q.cd
theorem pgo {i : Nat} {scope : Scope} {cl : List (Str × Addr)} {C : Addr} {s₀ : Shared} {H₀ : Hp} {fp : List Addr} {N' : List Str} (q : NmOk scope x .local) (hd : N'.Nodup) (hN : N'[i]? = some x := by rfl) : PG (X.comp scope cl C s₀ H₀ fp N') (.Name x pos) (gName i) :=
  pg_name (X := X.comp scope cl C s₀ H₀ fp N') hd hN (.inl (lookup_relabel_local q.lk)) (.inr (lookup_relabel_local q.lk))
section
variable {CX : CXT} {n : Nat} {f : Addr} {fd : FuncData} {ps : List Str} {sp : Sp} {dvs : List V} {ds : List Value} {E : XK} {id T : String} {r : List V → Hp → VK → Prop}
theorem pe_callk (F : FnOk X.prog X.w X.K X.mg X.base CX n f fd ps sp) (hr : Room n X.A) (q : NmOk X.env.scope x .globalImplicit) (hm : X.mg x = some (.ref f)) (hk : PySem.W.keepIn X.K (.ref f) = true) (hb : Binds X.K fd ps ds) (hd : Vals dvs ds) (hx : Passes CX X E)
    (ha : PA X (e :: es) t) (he : notStar e = true := by rfl) (hpl : (backTo pos (starEach es X.env)).any (·.1) = false := by rfl) :
    PE X (.Call (.Name x p) (e :: es) [] pos) (tCall sp dvs E t) := pe_call F hr q.lk hm hk hb hd hx ha q.db (star_cons he) hpl
theorem pe_callBk (hc : CallR X (.builtin id) r) (q : NmOk X.env.scope x .globalImplicit) (hm : X.mg x = none) (hv : bootBuiltins x = some (.builtin id)) (ha : PA X (e :: es) t)
    (he : notStar e = true := by rfl) (hpl : (backTo pos (starEach es X.env)).any (·.1) = false := by rfl) : PE X (.Call (.Name x p) (e :: es) [] pos) (tCB r t) := pe_callB hc q.lk hm hv ha q.nn q.db (star_cons he) hpl
theorem pe_callTyk (hc : CallR X (.type T) r) (q : NmOk X.env.scope x .globalImplicit) (hm : X.mg x = none) (hv : bootBuiltins x = some (.type T)) (ha : PA X (e :: es) t)
    (he : notStar e = true := by rfl) (hpl : (backTo pos (starEach es X.env)).any (·.1) = false := by rfl) : PE X (.Call (.Name x p) (e :: es) [] pos) (tCB r t) := pe_callTy hc q.lk hm hv ha q.nn q.db (star_cons he) hpl
theorem pe_bltnk {v : V} {u : Value} (q : NmOk X.env.scope x .globalImplicit) (hm : X.mg x = none) (hv : bootBuiltins x = some u) (r : RelV v u) : PE X (.Name x pos) (tC v) := pe_bltn q.lk hm hv r q.nn q.db
theorem pe_globk {v : V} {u : Value} (q : NmOk X.env.scope x .globalImplicit) (hm : X.mg x = some u) (r : RelV v u) : PE X (.Name x pos) (tC v) := pe_glob q.lk hm r q.db
end
end
/-! ### stores by facts that are shown once -/
def notComp : Expr → Bool
  | .ListComp _ _ _ _ => false
  | .SetComp _ _ _ _ => false
  | .DictComp _ _ _ _ _ => false
  | _ => true
theorem swaps_no {value : Expr} {tgt : Option Expr} {l : Nat} {env : Env} (h : notComp value = true) : swapsWith value tgt l env = pure false := by
  cases value <;> first | rfl | cases h
section
variable {X : Cx}
theorem ps_setk {i : Nat} {x : Str} {e : Expr} {te : TE} {pos pos' : Pos} (hN : X.N.Nodup) (hi : X.N[i]? = some x) (hx : Loc X.env.scope x) (he : PE X e te) (hs : notComp e = true := by rfl) (hf : X.fn x = true := by rfl) :
    PS X (.Assign [.Name x pos'] e pos) (tAsg te (gName i)) := ps_set hN hi hx he (swaps_no hs) (.inl hf)
theorem ps_exprk {e : Expr} {te : TE} {pos : Pos} (he : PE X e te) (hs : notComp e = true := by rfl) : PS X (.Expr e pos) (tDrop te) := ps_expr he (swaps_no hs)
end
end L2

set_option Elab.async false
set_option linter.all false
set_option maxRecDepth 100000
namespace L2
open PySem PySem.Spec PyProof.Rows
section
variable {D : Ends} {σ : St} {H : Hp} {Q : VK} {B : Bool → Hp → Prop} {te ta tb tc : TE} {t u : TS} {g : TG} {tt uu : TT} {tr : TA} {r r' : R2} {K : PySem.W.Frag}
/-! ### the readings, opened one step at a time -/
theorem v_seq (h : t { D with nx := u D } σ H) : tSeq t u D σ H := h
theorem v_asg (h : te σ H fun x H1 => g x σ H1 D.nx) : tAsg te g D σ H := h
theorem v_ifS (h : tt σ H fun b H1 => if b = true then t D σ H1 else u D σ H1) : tIfS tt t u D σ H := h
theorem v_ret (h : te σ H D.rt) : tRet te D σ H := h
theorem v_retN (h : D.rt .non H) : tRetN D σ H := h
theorem v_next (h : D.nx σ H) : tNext D σ H := h
theorem v_break (h : D.bk σ H) : tBreak D σ H := h
theorem v_cont (h : D.ct σ H) : tCont D σ H := h
theorem v_drop (h : te σ H fun _ H1 => D.nx σ H1) : tDrop te D σ H := h
theorem v_name {i : Nat} {v : V} {R : St → Hp → Prop} (h : R (σ.set i (some v)) H) : gName i v σ H R := h
theorem v_gsub {to ti : TE} {ts : TSet} {v : V} {R : St → Hp → Prop} (h : to σ H fun o H1 => ti σ H1 fun i H2 => ts o i v H2 fun H3 => R σ H3) : gSub to ti ts v σ H R := h
theorem v_var {i : Nat} {v : V} (e : σ[i]? = some (some v)) (h : Q v H) : tVar i σ H Q := ⟨v, e, h⟩
theorem v_C {v : V} (h : Q v H) : tC v σ H Q := h
theorem v_op (h : ta σ H fun x H1 => tb σ H1 fun y H2 => r x y H2 Q) : tOp r ta tb σ H Q := h
theorem v_un {ru : V → Hp → VK → Prop} (h : ta σ H fun x H1 => ru x H1 Q) : tUn ru ta σ H Q := h
theorem v_neg {i : Int} (h : Q (.int (-i)) H) : rU (fun i => .int (-i)) (.int i) H Q := ⟨i, rfl, h⟩
theorem v_test (h : te σ H fun x H' => ∃ k, x = .bl k ∧ B k H') : tTest te σ H B := h
theorem v_tB (h : te σ H fun x H' => ∃ k, x = .bl k ∧ B k H') : tB te σ H B := h
theorem v_bl {c : Bool} {R : Bool → Prop} (h : R c) : ∃ k, V.bl c = .bl k ∧ R k := ⟨c, rfl, h⟩
theorem v_or (h : tt σ H fun c H1 => if c = true then B true H1 else uu σ H1 B) : tOr tt uu σ H B := h
theorem v_and (h : tt σ H fun c H1 => if c = true then uu σ H1 B else B false H1) : tAnd tt uu σ H B := h
theorem v_not (h : tt σ H fun c H1 => B (!c) H1) : tNot tt σ H B := h
theorem v_andV (h : ta σ H fun x H1 => ∃ c, x = .bl c ∧ if c = true then tb σ H1 Q else Q (.bl false) H1) : tAndV ta tb σ H Q := h
theorem v_orV (h : ta σ H fun x H1 => ∃ c, x = .bl c ∧ if c = true then Q (.bl true) H1 else tb σ H1 Q) : tOrV ta tb σ H Q := h
theorem v_notV (h : ta σ H fun x H1 => ∃ c, x = .bl c ∧ Q (.bl (!c)) H1) : tNotV ta σ H Q := h
theorem v_if (h : tt σ H fun c H1 => if c = true then ta σ H1 Q else tb σ H1 Q) : tIf tt ta tb σ H Q := h
theorem v_chain (h : ta σ H fun x H1 => tb σ H1 fun y H2 => r x y H2 fun z H3 => ∃ k, z = .bl k ∧ if k = true then tc σ H3 fun z H4 => r' y z H4 Q else Q (.bl false) H3) : tChain r r' ta tb tc σ H Q := h
theorem v_call {sp : Sp} {dv : List V} {E : XK} (h : tr σ H fun vs H1 => sp (vs ++ dv) H1 Q E) : tCall sp dv E tr σ H Q := h
theorem v_CB {rc : List V → Hp → VK → Prop} (h : tr σ H fun vs H1 => rc vs H1 Q) : tCB rc tr σ H Q := h
theorem v_cons {R : List V → Hp → Prop} (h : ta σ H fun x H1 => tr σ H1 fun xs H2 => R (x :: xs) H2) : tCons ta tr σ H R := h
theorem v_nil {R : List V → Hp → Prop} (h : R [] H) : tNil σ H R := h
theorem v_lst (h : tr σ H fun xs H1 => xs.length ≤ sizeLine ∧ ∀ p, H1 p = none → Q (.ref p) (upd H1 p (.lst xs))) : tLst tr σ H Q := h
theorem v_tup (h : tr σ H fun xs H1 => xs.length ≤ sizeLine ∧ ∀ p, H1 p = none → Q (.ref p) (upd H1 p (.tup xs))) : tTup tr σ H Q := h
theorem v_sl {rs : V → Option Int → Option Int → Hp → VK → Prop} {tl th : TO} (h : te σ H fun x H1 => tl σ H1 fun l H2 => th σ H2 fun u H3 => rs x l u H3 Q) : tSl rs te tl th σ H Q := h
theorem v_noPart {R : Option Int → Hp → Prop} (h : R none H) : tNoPart σ H R := h
theorem v_part {R : Option Int → Hp → Prop} (h : te σ H fun x H1 => ∃ i, x = .int i ∧ R (some i) H1) : tPart te σ H R := h
theorem v_int {i : Int} {R : Int → Prop} (h : R i) : ∃ k, V.int i = .int k ∧ R k := ⟨i, rfl, h⟩
theorem v_bm {T : String} {rm : V → List V → Hp → VK → Prop} (h : te σ H fun x H1 => tyV K T x H1 ∧ tr σ H1 fun xs H2 => rm x xs H2 Q) : tBM K T rm te tr σ H Q := h
theorem v_true {B : Bool → Hp → Prop} (h : B true H) : tTrue σ H B := h
/-! values -/
theorem v_rI0 {gg : Int → Int → V} {i j : Int} (h : Q (gg i j) H) : rI0 gg (.int i) (.int j) H Q := ⟨i, j, rfl, rfl, h⟩
theorem v_rI {C : Int → Int → Prop} {gg : Int → Int → V} {i j : Int} (c : C i j) (h : Q (gg i j) H) : rI C gg (.int i) (.int j) H Q := ⟨i, j, rfl, rfl, c, h⟩
theorem v_addI {i j : Int} (h : Q (.int (i + j)) H) : rAddA (.int i) (.int j) H Q := .inl ⟨i, j, rfl, rfl, h⟩
theorem v_addS {i j : Str} (z : i.length + j.length ≤ sizeLine) (h : Q (.str (i ++ j)) H) : rAddA (.str i) (.str j) H Q := .inr (.inl ⟨i, j, rfl, rfl, z, h⟩)
theorem v_addL {l b : Addr} {xs zs : List V} (h1 : H l = some (.lst xs)) (h2 : H b = some (.lst zs)) (z : xs.length + zs.length ≤ sizeLine) (h : ∀ p, H p = none → Q (.ref p) (upd H p (.lst (xs ++ zs)))) : rAddA (.ref l) (.ref b) H Q := .inr (.inr (.inl ⟨l, b, xs, zs, rfl, rfl, h1, h2, z, h⟩))
theorem v_mulI {i j : Int} (c : CMul i j) (h : Q (.int (i * j)) H) : rMulA (.int i) (.int j) H Q := .inl ⟨i, j, rfl, rfl, c, h⟩
theorem v_mulS {i : Str} {j : Int} (c : i.length ≤ 16 ∧ 0 ≤ j ∧ j ≤ 1000) (h : Q (.str (Txt.mul i j)) H) : rMulA (.str i) (.int j) H Q := .inr ⟨i, j, rfl, rfl, c, h⟩
theorem v_ltI {i j : Int} (h : Q (.bl (decide (i < j))) H) : rLtA (.int i) (.int j) H Q := .inl ⟨i, j, rfl, rfl, h⟩
theorem v_leI {i j : Int} (h : Q (.bl (decide (i ≤ j))) H) : rLeA (.int i) (.int j) H Q := .inl ⟨i, j, rfl, rfl, h⟩
theorem v_gtI {i j : Int} (h : Q (.bl (decide (j < i))) H) : rGtA (.int i) (.int j) H Q := .inl ⟨i, j, rfl, rfl, h⟩
theorem v_geI {i j : Int} (h : Q (.bl (decide (j ≤ i))) H) : rGeA (.int i) (.int j) H Q := .inl ⟨i, j, rfl, rfl, h⟩
theorem v_ltS {i j : Str} (h : Q (.bl (decide (i.cps.toList < j.cps.toList))) H) : rLtA (.str i) (.str j) H Q := .inr ⟨i, j, rfl, rfl, h⟩
theorem v_leS {i j : Str} (h : Q (.bl (!decide (j.cps.toList < i.cps.toList))) H) : rLeA (.str i) (.str j) H Q := .inr ⟨i, j, rfl, rfl, h⟩
theorem v_gtS {i j : Str} (h : Q (.bl (decide (j.cps.toList < i.cps.toList))) H) : rGtA (.str i) (.str j) H Q := .inr ⟨i, j, rfl, rfl, h⟩
theorem v_geS {i j : Str} (h : Q (.bl (!decide (i.cps.toList < j.cps.toList))) H) : rGeA (.str i) (.str j) H Q := .inr ⟨i, j, rfl, rfl, h⟩
theorem v_eqI {i j : Int} (h : Q (.bl (decide (i = j))) H) : rEq (.int i) (.int j) H Q := ⟨rfl, by simpa using h⟩
theorem v_eqS {i j : Str} (h : Q (.bl (decide (i = j))) H) : rEq (.str i) (.str j) H Q := ⟨rfl, by simpa using h⟩
theorem v_eqB {i j : Bool} (h : Q (.bl (decide (i = j))) H) : rEq (.bl i) (.bl j) H Q := ⟨rfl, by simpa using h⟩
theorem v_eqX {x y : V} (e : scal x y = true) (h : Q (.bl (decide (x = y))) H) : rEq x y H Q := ⟨e, h⟩
theorem v_neI {i j : Int} (h : Q (.bl (!decide (i = j))) H) : rNe (.int i) (.int j) H Q := ⟨rfl, by simpa using h⟩
theorem v_neS {i j : Str} (h : Q (.bl (!decide (i = j))) H) : rNe (.str i) (.str j) H Q := ⟨rfl, by simpa using h⟩
theorem v_neB {i j : Bool} (h : Q (.bl (!decide (i = j))) H) : rNe (.bl i) (.bl j) H Q := ⟨rfl, by simpa using h⟩
theorem v_neX {x y : V} (e : scal x y = true) (h : Q (.bl (!decide (x = y))) H) : rNe x y H Q := ⟨e, h⟩
theorem v_isB {i j : Bool} (h : Q (.bl (i == j)) H) : rIsA (.bl i) (.bl j) H Q := .inr ⟨i, j, rfl, rfl, h⟩
theorem v_isN {x : V} (h : Q (.bl (decide (x = .non))) H) : rIsA x .non H Q := .inl ⟨rfl, h⟩
theorem v_ixL {p : Addr} {xs : List V} {i : Int} {v : V} (e : H p = some (.lst xs)) (e2 : atI xs i = some v) (h : Q v H) : rIxA (.ref p) (.int i) H Q := .inl ⟨p, xs, i, v, rfl, rfl, e, e2, h⟩
theorem v_ixT {p : Addr} {xs : List V} {i : Int} {v : V} (e : H p = some (.tup xs)) (e2 : atI xs i = some v) (h : Q v H) : rIxA (.ref p) (.int i) H Q := .inr (.inl ⟨p, xs, i, v, rfl, rfl, e, e2, h⟩)
theorem v_ixS {z : Str} {i : Int} {c : Nat} (hz : z.length ≤ sizeLine) (e2 : atI z.cps.toList i = some c) (h : Q (.str ⟨#[c]⟩) H) : rIxA (.str z) (.int i) H Q := .inr (.inr ⟨z, i, c, rfl, rfl, hz, e2, h⟩)
theorem v_setL {p : Addr} {xs : List V} {i : Int} {j : Nat} {v : V} {R : Hp → Prop} (e : H p = some (.lst xs)) (e2 : ixN xs.length i = some j) (h : R (upd H p (.lst (xs.set j v)))) : rSetL (.ref p) (.int i) v H R := ⟨p, xs, i, j, rfl, rfl, e, e2, h⟩
theorem v_lenL {p : Addr} {xs : List V} (e : H p = some (.lst xs)) (h : Q (.int xs.length) H) : rLen [.ref p] H Q := ⟨xs, .inl e, h⟩
theorem v_lenT {p : Addr} {xs : List V} (e : H p = some (.tup xs)) (h : Q (.int xs.length) H) : rLen [.ref p] H Q := ⟨xs, .inr e, h⟩
theorem v_lenS {z : Str} (hz : z.length ≤ sizeLine) (h : Q (.int z.length) H) : rLen [.str z] H Q := ⟨hz, h⟩
theorem v_inst {x : V} {c : String} (hx : tyName x H ≠ "") (hc : c = "str" ∨ c = "int" ∨ c = "bool" ∨ c = "tuple" ∨ c = "list") (h : Q (.bl (instB (tyName x H) c)) H) : rInst [x, .ty c] H Q := ⟨hx, hc, h⟩
theorem v_slL {a : Addr} {xs : List V} {lo hi : Option Int} (e : SqL K H a xs) (h : ∀ p, H p = none → Q (.ref p) (upd H p (.lst (cutV xs lo hi)))) : rSlL K (.ref a) lo hi H Q := ⟨a, xs, rfl, e, h⟩
theorem v_slS {z : Str} {lo hi : Option Int} (hz : z.length ≤ sizeLine) (h : Q (.str (Txt.slice z lo hi)) H) : rSlS (.str z) lo hi H Q := ⟨z, rfl, hz, h⟩
theorem v_iteD {c A B : Prop} [Decidable c] (h1 : c → A) (h2 : ¬ c → B) : if decide c = true then A else B := by
  by_cases h : c
  · simpa [h] using h1 h
  · simpa [h] using h2 h
theorem v_iteN {c A B : Prop} [Decidable c] (h1 : ¬ c → A) (h2 : c → B) : if (!decide c) = true then A else B := by
  by_cases h : c
  · simpa [h] using h2 h
  · simpa [h] using h1 h
theorem v_ite {b : Bool} {A B : Prop} (h1 : b = true → A) (h2 : b = false → B) : if b = true then A else B := by
  cases b with
  | true => simpa using h1 rfl
  | false => simpa using h2 rfl
/-! ### comprehensions -/
def Nx (n : Nat) (Pv : Nat → List V → Hp → Prop) (i : Nat) (acc : List V) (H : Hp) : Prop := ∃ m', m' < n - i ∧ m' = n - (i + 1) ∧ i + 1 ≤ n ∧ Pv (i + 1) acc H
theorem Nx.of {n : Nat} {Pv : Nat → List V → Hp → Prop} {i : Nat} {acc : List V} (hi : i < n) (h : Pv (i + 1) acc H) : Nx n Pv i acc H := ⟨_, by omega, rfl, hi, h⟩
def Kept0 (ix : List (Option Nat)) (σ τ : St) : Prop := τ.length = ix.length ∧ ∀ (k : Nat) v, (tau ix σ)[k]? = some (some v) → τ[k]? = some (some v)
theorem kept_set {ix : List (Option Nat)} {i : Nat} {v : V} (h : ix[i]? = some none) : Kept0 ix σ ((tau ix σ).set i (some v)) := by
  refine ⟨by simp [tau], fun k w hk => ?_⟩
  by_cases e : i = k
  · subst e
    unfold tau at hk
    rw [List.getElem?_map, h] at hk
    cases hk
  · rw [List.getElem?_set_ne e]; exact hk
def CompW (ix : List (Option Nat)) (σ : St) (g : TG) (tt : TT) (te : TE) (Q : VK) (J : It) (D0 : Addr) (H1 : Hp) : Prop :=
    ∃ W : Nat → Nat → List V → Hp → Prop, (∃ m, W 0 m [] (upd H1 D0 (.lst []))) ∧
    ∀ i m acc H2, W i m acc H2 → H2 D0 = some (.lst acc) →
      (J.stop i H2 ∧ Q (.ref D0) H2) ∨
      (J.go i H2 ∧ acc.length < sizeLine ∧ ∀ x H3, J.yld i H2 x H3 → g x (tau ix σ) H3 fun τ H4 => (τ.length = ix.length ∧ ∀ (k : Nat) v, (tau ix σ)[k]? = some (some v) → τ[k]? = some (some v)) ∧
        tt τ H4 fun b H5 => if b = true then te τ H5 fun y H6 => H6 D0 = some (.lst acc) ∧ ∃ m', m' < m ∧ W (i + 1) m' (acc ++ [y]) (upd H6 D0 (.lst (acc ++ [y])))
          else H5 D0 = some (.lst acc) ∧ ∃ m', m' < m ∧ W (i + 1) m' acc H5)
theorem v_comp {ix : List (Option Nat)} {wi : TI} (h : wi σ H fun J H1 => ∀ D, H1 D = none → CompW ix σ g tt te Q J D H1) : tComp ix wi g tt te σ H Q := h
/-- the comprehension's turns, by what has been gathered and the heap -/
theorem comp_it {ix : List (Option Nat)} {g : TG} {n : Nat} {J : It} {D0 : Addr} {H1 : Hp} (item : Nat → V) (Pv : Nat → List V → Hp → Prop) (h0 : Pv 0 [] (upd H1 D0 (.lst [])))
    (hgo : ∀ i acc H2, i < n → Pv i acc H2 → H2 D0 = some (.lst acc) → J.go i H2 ∧ ∀ x H3, J.yld i H2 x H3 → H3 = H2 ∧ x = item i)
    (hstop : ∀ acc H2, Pv n acc H2 → H2 D0 = some (.lst acc) → J.stop n H2)
    (hs : ∀ i acc H2, i < n → Pv i acc H2 → H2 D0 = some (.lst acc) → acc.length < sizeLine ∧ g (item i) (tau ix σ) H2 fun τ H4 => Kept0 ix σ τ ∧
      tt τ H4 fun b H5 => if b = true then te τ H5 fun y H6 => H6 D0 = some (.lst acc) ∧ Nx n Pv i (acc ++ [y]) (upd H6 D0 (.lst (acc ++ [y]))) else H5 D0 = some (.lst acc) ∧ Nx n Pv i acc H5)
    (hd : ∀ acc H2, Pv n acc H2 → H2 D0 = some (.lst acc) → Q (.ref D0) H2) :
    CompW ix σ g tt te Q J D0 H1 := by
  refine ⟨fun i m acc H => m = n - i ∧ i ≤ n ∧ Pv i acc H, ⟨n, by simp, Nat.zero_le _, h0⟩, ?_⟩
  rintro i m acc H2 ⟨rfl, hi, p⟩ hD
  by_cases hlt : i < n
  · obtain ⟨hz, hg⟩ := hs i acc H2 hlt p hD
    obtain ⟨go, hy⟩ := hgo i acc H2 hlt p hD
    refine .inr ⟨go, hz, fun x H3 y => ?_⟩
    obtain ⟨e, e2⟩ := hy x H3 y
    subst e e2
    exact hg
  · have e : i = n := by omega
    subst e
    exact .inl ⟨hstop acc H2 p hD, hd acc H2 p hD⟩
variable {ix : List (Option Nat)}
theorem comp_range {n : Nat} {lo : Int} {D0 : Addr} {H1 : Hp} (Pv : Nat → List V → Hp → Prop) (h0 : Pv 0 [] (upd H1 D0 (.lst [])))
    (hs : ∀ i acc H2, i < n → Pv i acc H2 → H2 D0 = some (.lst acc) → acc.length < sizeLine ∧ g (.int (lo + i)) (tau ix σ) H2 fun τ H4 => Kept0 ix σ τ ∧
      tt τ H4 fun b H5 => if b = true then te τ H5 fun y H6 => H6 D0 = some (.lst acc) ∧ Nx n Pv i (acc ++ [y]) (upd H6 D0 (.lst (acc ++ [y]))) else H5 D0 = some (.lst acc) ∧ Nx n Pv i acc H5)
    (hd : ∀ acc H2, Pv n acc H2 → H2 D0 = some (.lst acc) → Q (.ref D0) H2) : CompW ix σ g tt te Q (Itr lo n) D0 H1 := comp_it (ix := ix) (σ := σ) (g := g) (tt := tt) (te := te) (Q := Q) (J := Itr lo n) (H1 := H1) (D0 := D0) (fun i => .int (lo + i)) Pv h0
  (fun i acc H2 hi _ _ => ⟨hi, fun x H3 y => y⟩) (fun acc H2 _ _ => Nat.le_refl n) hs hd
theorem comp_list {a : Addr} {xs : List V} {D0 : Addr} {H1 : Hp} (Pv : Nat → List V → Hp → Prop) (h0 : Pv 0 [] (upd H1 D0 (.lst []))) (hl : ∀ i acc H2, Pv i acc H2 → SqL K H2 a xs)
    (hs : ∀ i acc H2, i < xs.length → Pv i acc H2 → H2 D0 = some (.lst acc) → acc.length < sizeLine ∧ g (xs.getD i .non) (tau ix σ) H2 fun τ H4 => Kept0 ix σ τ ∧
      tt τ H4 fun b H5 => if b = true then te τ H5 fun y H6 => H6 D0 = some (.lst acc) ∧ Nx xs.length Pv i (acc ++ [y]) (upd H6 D0 (.lst (acc ++ [y]))) else H5 D0 = some (.lst acc) ∧ Nx xs.length Pv i acc H5)
    (hd : ∀ acc H2, Pv xs.length acc H2 → H2 D0 = some (.lst acc) → Q (.ref D0) H2) : CompW ix σ g tt te Q (Itl K a) D0 H1 := comp_it (ix := ix) (σ := σ) (g := g) (tt := tt) (te := te) (Q := Q) (J := Itl K a) (H1 := H1) (D0 := D0) (n := xs.length) (fun i => xs.getD i .non) Pv h0
  (fun i acc H2 hi p _ => ⟨⟨xs, xs[i], hl i acc H2 p, by simp [hi]⟩, fun x H3 y => ⟨y.1, by
    have := y.2 xs (hl i acc H2 p)
    simp [List.getD_eq_getElem?_getD, this]⟩⟩) (fun acc H2 p _ => ⟨xs, hl _ acc H2 p, Nat.le_refl _⟩) hs hd
theorem comp_str {z : Str} {D0 : Addr} {H1 : Hp} (Pv : Nat → List V → Hp → Prop) (h0 : Pv 0 [] (upd H1 D0 (.lst [])))
    (hs : ∀ i acc H2, i < z.cps.size → Pv i acc H2 → H2 D0 = some (.lst acc) → acc.length < sizeLine ∧ g (.str ⟨#[z.cps.getD i 0]⟩) (tau ix σ) H2 fun τ H4 => Kept0 ix σ τ ∧
      tt τ H4 fun b H5 => if b = true then te τ H5 fun y H6 => H6 D0 = some (.lst acc) ∧ Nx z.cps.size Pv i (acc ++ [y]) (upd H6 D0 (.lst (acc ++ [y]))) else H5 D0 = some (.lst acc) ∧ Nx z.cps.size Pv i acc H5)
    (hd : ∀ acc H2, Pv z.cps.size acc H2 → H2 D0 = some (.lst acc) → Q (.ref D0) H2) : CompW ix σ g tt te Q (Its z) D0 H1 := comp_it (ix := ix) (σ := σ) (g := g) (tt := tt) (te := te) (Q := Q) (J := Its z) (H1 := H1) (D0 := D0) (n := z.cps.size) (fun i => .str ⟨#[z.cps.getD i 0]⟩) Pv h0
  (fun i acc H2 hi _ _ => ⟨hi, fun x H3 y => ⟨y.1, by
    obtain ⟨c, e, ex⟩ := y.2
    rw [ex]
    simp [Array.getD_eq_getD_getElem?, e]⟩⟩) (fun acc H2 _ _ => Nat.le_refl _) hs hd
theorem v_iR1 {R : It → Hp → Prop} (h : tr σ H fun vs H1 => ∃ j : Int, vs = [.int j] ∧ -(2 ^ 62) ≤ j ∧ j < 2 ^ 62 ∧ R (Itr 0 j.toNat) H1) : iRng1 tr σ H R := h
theorem v_iR1' {R : It → Hp → Prop} {j : Int} (h1 : -(2 ^ 62) ≤ j) (h2 : j < 2 ^ 62) (h : R (Itr 0 j.toNat) H) : ∃ k : Int, [V.int j] = [.int k] ∧ -(2 ^ 62) ≤ k ∧ k < 2 ^ 62 ∧ R (Itr 0 k.toNat) H := ⟨j, rfl, h1, h2, h⟩
theorem v_iStr {R : It → Hp → Prop} (h : te σ H fun x H1 => ∃ z, x = .str z ∧ R (Its z) H1) : iStr te σ H R := h
theorem v_iStr' {R : Str → Prop} {z : Str} (h : R z) : ∃ y, V.str z = .str y ∧ R y := ⟨z, rfl, h⟩
theorem v_iL {R : It → Hp → Prop} (h : te σ H fun x H1 => ∃ a, x = .ref a ∧ (∃ xs, SqL K H1 a xs) ∧ R (Itl K a) H1) : iList K te σ H R := h
theorem v_iL' {R : Addr → Prop} {P : Addr → Prop} {a : Addr} (h1 : P a) (h : R a) : ∃ b, V.ref a = .ref b ∧ P b ∧ R b := ⟨a, rfl, h1, h⟩
end
theorem upd_new {H : Hp} {b p : Addr} {o u : HO} (e : H b = some u) (hp : H p = none) : upd H p o b = some u := by rw [upd_ne (ne_of_none e hp)]; exact e
def KeepBut (p : Addr) (H H' : Hp) : Prop := ∀ b o, H b = some o → b ≠ p → H' b = some o
theorem KeepBut.get {p b : Addr} {H H' : Hp} {o : HO} (k : KeepBut p H H') (e : H b = some o) (n : b ≠ p) : H' b = some o := k b o e n
theorem Same.get {b : Addr} {H H' : Hp} {o : HO} (k : Same H H') (e : H b = some o) : H' b = some o := k b o e
theorem keepBut_upd {p : Addr} {H : Hp} {o : HO} : KeepBut p H (upd H p o) := fun b u e hb => by rw [upd_ne hb]; exact e
theorem KeepBut.trans {p : Addr} {H H1 H2 : Hp} (a : KeepBut p H H1) (b : KeepBut p H1 H2) : KeepBut p H H2 := fun c o e hc => b c o (a c o e hc) hc
theorem KeepBut.refl {p : Addr} {H : Hp} : KeepBut p H H := fun _ _ e _ => e
theorem Same.kb {p : Addr} {H H' : Hp} (s : Same H H') : KeepBut p H H' := fun b o e _ => s b o e
theorem same_new {H : Hp} {p : Addr} (h : H p = none) (o : HO) : Same H (upd H p o) := fun b u q => by rw [upd_ne (ne_of_none q h)]; exact q
theorem KeepBut.new {p q : Addr} {H H1 : Hp} {o : HO} (a : KeepBut p H H1) (h : H1 q = none) : KeepBut p H (upd H1 q o) := a.trans (same_new h o).kb
/-- a new list that is written again: what stood there ahead of it stays -/
theorem KeepBut.upd_own {p q : Addr} {H H1 : Hp} {o : HO} (a : KeepBut p H H1) (h : H q = none) : KeepBut p H (upd H1 q o) := fun b u e hb => by
  rw [upd_ne (ne_of_none e h)]; exact a b u e hb
theorem Same.upd_own {q : Addr} {H H1 : Hp} {o : HO} (a : Same H H1) (h : H q = none) : Same H (upd H1 q o) := fun b u e => by
  rw [upd_ne (ne_of_none e h)]; exact a b u e
theorem KeepBut.free {p q : Addr} {H H' : Hp} (a : KeepBut p H H') (h : H' q = none) (n : q ≠ p) : H q = none := by
  cases e : H q with
  | none => rfl
  | some o => rw [a q o e n] at h; cases h
theorem at_ints {ns : List Int} {i : Int} (h0 : 0 ≤ i) (h : i < (ns.length : Int)) : ∃ c, c ∈ ns ∧ atI (ns.map V.int) i = some (.int c) := by
  have hk : i.toNat < ns.length := by omega
  have ek : i = ((i.toNat : Nat) : Int) := by omega
  refine ⟨ns[i.toNat], List.getElem_mem hk, ?_⟩
  have z : atI (ns.map V.int) ((i.toNat : Nat) : Int) = some (.int ns[i.toNat]) := atI_nat (by rw [List.getElem?_map, List.getElem?_eq_getElem hk]; rfl)
  rwa [← ek] at z
theorem at_any {α : Type} {xs : List α} {i : Int} (h0 : 0 ≤ i) (h : i < (xs.length : Int)) : ∃ v, v ∈ xs ∧ atI xs i = some v := by
  have hk : i.toNat < xs.length := by omega
  have ek : i = ((i.toNat : Nat) : Int) := by omega
  refine ⟨xs[i.toNat], List.getElem_mem hk, ?_⟩
  have z : atI xs ((i.toNat : Nat) : Int) = some xs[i.toNat] := atI_nat (List.getElem?_eq_getElem hk)
  rwa [← ek] at z
/-- the hand at p, its cells at q: c draws so far -/
def Hand (H : Hp) (p q : Addr) (c : Int) : Prop := ∃ (ns : List Int) (a b : Int), H p = some (.lst [.ref q, .int a, .int b, .int c]) ∧ H q = some (.lst (ns.map V.int)) ∧ (∀ n ∈ ns, 0 ≤ n) ∧ ns.length ≤ 63 ∧ 0 ≤ a ∧ 0 ≤ b ∧ 0 ≤ c
theorem Hand.same {H H' : Hp} {p q : Addr} {c : Int} (h : Hand H p q c) (s : Same H H') : Hand H' p q c := by
  obtain ⟨ns, a, b, h1, h2, r⟩ := h
  exact ⟨ns, a, b, s _ _ h1, s _ _ h2, r⟩
theorem Hand.new {H : Hp} {p q l : Addr} {c : Int} {o : HO} (h : Hand H p q c) (hl : H l = none) : Hand (upd H l o) p q c := h.same (same_new hl o)
theorem Hand.nn {H : Hp} {p q : Addr} {c : Int} (h : Hand H p q c) : 0 ≤ c := by
  obtain ⟨ns, a, b, _, _, _, _, _, _, r⟩ := h
  exact r
theorem Hand.ne {H : Hp} {p q l : Addr} {c : Int} (h : Hand H p q c) (hl : H l = none) : l ≠ p := by
  obtain ⟨ns, a, b, e, _⟩ := h
  exact (ne_of_none e hl).symm
theorem Hand.ne' {H : Hp} {p q l : Addr} {c : Int} (hl : H l = none) (h : Hand H p q c) : l ≠ p := h.ne hl
theorem Hand.nq {H : Hp} {p q l : Addr} {c : Int} (h : Hand H p q c) (hl : H l = none) : l ≠ q := by
  obtain ⟨ns, a, b, _, e, _⟩ := h
  exact (ne_of_none e hl).symm
theorem Hand.apart {H : Hp} {p q : Addr} {c : Int} (h : Hand H p q c) : q ≠ p := by
  obtain ⟨ns, a, b, h1, h2, _⟩ := h
  exact ne_of h2 h1 (by intro z; cases ns with | nil => cases z | cons x r => cases z)
/-- an own list, apart from the hand, is written again -/
theorem Hand.upd_own {H : Hp} {p q l : Addr} {c : Int} {o : HO} (h : Hand H p q c) (n1 : l ≠ p) (n2 : l ≠ q) : Hand (upd H l o) p q c := by
  obtain ⟨ns, a, b, h1, h2, r⟩ := h
  exact ⟨ns, a, b, by rw [upd_ne n1.symm]; exact h1, by rw [upd_ne n2.symm]; exact h2, r⟩
def spDraw : Sp := fun vs H Q _ => ∃ (p q : Addr) (many c : Int), vs = [.ref p, .int many] ∧ Hand H p q c ∧ 0 < many ∧ many < 1073741824 ∧ c < 1000000000 ∧ ∀ (r : Int) H', 0 ≤ r → r < many → Hand H' p q (c + 1) → KeepBut p H H' → Q (.int r) H'
theorem use_draw {H : Hp} {Q : VK} {E : XK} {p q : Addr} {many c : Int} (hh : Hand H p q c) (h1 : 0 < many) (h2 : many < 1073741824) (h3 : c < 1000000000) (k : ∀ (r : Int) H', 0 ≤ r → r < many → Hand H' p q (c + 1) → KeepBut p H H' → Q (.int r) H') :
    spDraw ([.ref p, .int many] ++ []) H Q E := ⟨p, q, many, c, rfl, hh, h1, h2, h3, k⟩
section
variable {σ : St} {H : Hp} {Q : VK}
theorem v_abs {n : Int} (h : Q (.int (if n < 0 then -n else n)) H) : ∃ i, [V.int n] = [V.int i] ∧ Q (.int (if i < 0 then -i else i)) H := ⟨n, rfl, h⟩
theorem v_iteNT {A B : Prop} (h : B) : if (!true) = true then A else B := by simpa using h
theorem v_iteNF {A B : Prop} (h : A) : if (!false) = true then A else B := by simpa using h
theorem v_instT {x : V} {c : String} (e : instB (tyName x H) c = true) (hx : tyName x H ≠ "") (hc : c = "str" ∨ c = "int" ∨ c = "bool" ∨ c = "tuple" ∨ c = "list") (h : Q (.bl true) H) : rInst [x, .ty c] H Q := ⟨hx, hc, by rw [e]; exact h⟩
theorem v_instF {x : V} {c : String} (e : instB (tyName x H) c = false) (hx : tyName x H ≠ "") (hc : c = "str" ∨ c = "int" ∨ c = "bool" ∨ c = "tuple" ∨ c = "list") (h : Q (.bl false) H) : rInst [x, .ty c] H Q := ⟨hx, hc, by rw [e]; exact h⟩
theorem v_all {p : Addr} {bs : List Bool} (e : H p = some (.lst (bs.map V.bl))) (h : Q (.bl (bs.all id)) H) : ∃ (q : Addr) (cs : List Bool), [V.ref p] = [.ref q] ∧ H q = some (.lst (cs.map V.bl)) ∧ Q (.bl (cs.all id)) H := ⟨p, bs, rfl, e, h⟩
theorem v_any {p : Addr} {bs : List Bool} (e : H p = some (.lst (bs.map V.bl))) (h : Q (.bl (bs.any id)) H) : ∃ (q : Addr) (cs : List Bool), [V.ref p] = [.ref q] ∧ H q = some (.lst (cs.map V.bl)) ∧ Q (.bl (cs.any id)) H := ⟨p, bs, rfl, e, h⟩
theorem v_join {z : Str} {p : Addr} {ys : List Str} (e : H p = some (.lst (ys.map V.str))) (hz : (ys.map (·.length)).sum + ys.length * z.length ≤ 16777216) (h : Q (.str (Txt.join z ys)) H) :
    ∃ (z' : Str) (p' : Addr) (ys : List Str), V.str z = .str z' ∧ [V.ref p] = [.ref p'] ∧ H p' = some (.lst (ys.map V.str)) ∧ (ys.map (·.length)).sum + ys.length * z'.length ≤ 16777216 ∧ Q (.str (Txt.join z' ys)) H := ⟨z, p, ys, rfl, rfl, e, hz, h⟩
theorem v_eqD {x y : V} {d d' : D} (h1 : Rep H d x) (h2 : Rep H d' y) (h3 : d.deep ≤ 150) (h : Q (.bl (deq d d')) H) : rEqD x y H Q := ⟨d, d', h1, h2, h3, h⟩
theorem small {n : Nat} (h : n ≤ 1000) : n ≤ sizeLine := Nat.le_of_lt (small1000 h)
theorem cut_whole {xs : List V} {k : Nat} (h : xs.length ≤ k) : cutV xs none (some (k : Int)) = xs := by
  unfold cutV
  rw [HT.sIx_none, HT.sIx_nat, List.drop_zero, Nat.sub_zero, List.take_of_length_le (by omega)]
end
end L2

set_option Elab.async false
set_option linter.all false
set_option maxRecDepth 100000
namespace L2
open PySem PySem.Spec PyProof.Rows
section
open PySem.SeqAt
variable {X : Cx} {pins : List (Addr × Obj)} {σ : St} {H : Hp} {s : Shared}
/-! ### in, not in: data of any depth -/
noncomputable def eOf (H : Hp) (d : D) (y : Value) : Bool := @decide (∃ (d' : D) (v' : V), RelV v' y ∧ Rep H d' v' ∧ deq d' d = true) (Classical.propDecidable _)
theorem eOf_eq {d d' : D} {v' : V} {y : Value} (r : RelV v' y) (h : Rep H d' v') : eOf H d y = deq d' d := by
  unfold eOf
  cases e : deq d' d with
  | true => exact @decide_eq_true _ (Classical.propDecidable _) ⟨d', v', r, h, e⟩
  | false =>
    refine @decide_eq_false _ (Classical.propDecidable _) ?_
    rintro ⟨d2, v2, r2, h2, e2⟩
    rw [r2.inj r] at h2
    rw [Rep.inj h2 h, e] at e2
    cases e2
theorem any_eOf {d : D} : ∀ {ds : List D} {xs : List V} {us : List Value}, Vals xs us → Reps H ds xs → us.any (eOf H d) = ds.any fun e => deq e d
  | [], xs, us, r, h => by cases (show xs = [] from h); cases r; rfl
  | e :: ds, xs, us, r, h => by
    obtain ⟨x, xr, rfl, h1, h2⟩ := h
    cases r with
    | cons r1 r2 => rw [List.any_cons, List.any_cons, eOf_eq r1 h1, any_eOf r2 h2]
theorem mem_eOf (I : Inv X pins σ H s) {A : Around} (hu : A.units + 150 < cLine) {d : D} {x : V} {v : Value} (rx : RelV x v) (hx : Rep H d x) : ∀ {ds : List D} {xs : List V} {us : List Value}, Vals xs us → Reps H ds xs → D.deeps ds ≤ 150 → ∀ u ∈ us, EqAt A s u v (eOf H d u)
  | [], xs, us, r, h, _, u, hm => by cases (show xs = [] from h); cases r; cases hm
  | e :: ds, xs, us, r, h, hd, u, hm => by
    obtain ⟨y, xr, rfl, h1, h2⟩ := h
    have hd' : e.deep ≤ 150 ∧ D.deeps ds ≤ 150 := by simp [D.deeps] at hd; omega
    cases r with
    | cons r1 r2 =>
      rcases List.mem_cons.mp hm with rfl | hm
      · rw [eOf_eq r1 h1]
        exact (rc_and_eq I 150 A e d y x u v hd'.1 hu h1 hx r1 rx).2
      · exact mem_eOf I hu rx hx r2 h2 hd'.2 u hm
/-- x in t, x not in t -/
def rInD (neg : Bool) : R2 := fun x y H Q => ∃ (p : Addr) (xs : List V) (ds : List D) (d : D), y = .ref p ∧ (H p = some (.lst xs) ∨ H p = some (.tup xs)) ∧ Reps H ds xs ∧ Rep H d x ∧ D.deeps ds ≤ 150 ∧ Q (.bl (if neg then !(ds.any fun e => deq e d) else ds.any fun e => deq e d)) H
theorem op_inD (hu : X.A.units + 151 < cLine) : OpR X (compareOp .In) (rInD false) := by
  intro pins s σ H x y v u Q I rx ry h
  obtain ⟨p, xs, ds, d, rfl, hq, hs, hx, hd, q⟩ := h
  cases ry
  have hu' : X.A.in1.units + 150 < cLine := by show X.A.units + 1 + 150 < cLine; omega
  rcases hq with hq | hq
  · obtain ⟨its, r, pl⟩ := I.lstD hq
    refine SeqAt.in_listAt (eOf H d) pl (fun w hw => mem_eOf I hu' rx hx r hs hd w (by simpa using hw)) ⟨.bl _, H, I, rfl, ?_⟩
    rw [show its.toArray.any (eOf H d) = its.any (eOf H d) by simp, any_eOf r hs]
    exact q
  · obtain ⟨its, r, pl⟩ := I.tupD hq
    refine SeqAt.in_tupleAt (eOf H d) pl (fun w hw => mem_eOf I hu' rx hx r hs hd w (by simpa using hw)) ⟨.bl _, H, I, rfl, ?_⟩
    rw [show its.toArray.any (eOf H d) = its.any (eOf H d) by simp, any_eOf r hs]
    exact q
theorem op_notInD (hu : X.A.units + 151 < cLine) : OpR X (compareOp .NotIn) (rInD true) := by
  intro pins s σ H x y v u Q I rx ry h
  obtain ⟨p, xs, ds, d, rfl, hq, hs, hx, hd, q⟩ := h
  cases ry
  have hu' : X.A.in1.units + 150 < cLine := by show X.A.units + 1 + 150 < cLine; omega
  rcases hq with hq | hq
  · obtain ⟨its, r, pl⟩ := I.lstD hq
    refine SeqAt.notIn_listAt (eOf H d) pl (fun w hw => mem_eOf I hu' rx hx r hs hd w (by simpa using hw)) ⟨.bl _, H, I, rfl, ?_⟩
    rw [show its.toArray.any (eOf H d) = its.any (eOf H d) by simp, any_eOf r hs]
    exact q
  · obtain ⟨its, r, pl⟩ := I.tupD hq
    refine SeqAt.notIn_tupleAt (eOf H d) pl (fun w hw => mem_eOf I hu' rx hx r hs hd w (by simpa using hw)) ⟨.bl _, H, I, rfl, ?_⟩
    rw [show its.toArray.any (eOf H d) = its.any (eOf H d) by simp, any_eOf r hs]
    exact q
/-! ### t + u, any two tuples -/
def rCatA : R2 := fun x y H Q => ∃ (a b : Addr) (xs ys : List V), x = .ref a ∧ y = .ref b ∧ H a = some (.tup xs) ∧ H b = some (.tup ys) ∧ xs.length + ys.length ≤ sizeLine ∧
  (∀ p H', Same H H' → H' p = some (.tup (xs ++ ys)) → (p = a ∨ p = b ∨ H p = none) → Q (.ref p) H')
theorem op_catA : OpR X (binaryOp .Add) rCatA := by
  intro pins s σ H x y v u Q I rx ry h
  obtain ⟨a, b, xs, ys, rfl, rfl, ha, hb, hz, q⟩ := h
  by_cases hx : xs = []
  · subst hx
    cases rx
    cases ry
    obtain ⟨its, r1, p1⟩ := I.tupD ha
    obtain ⟨its2, r2, p2⟩ := I.tupD hb
    cases r1
    obtain ⟨⟨cls, dd, data, sl⟩, ho, hc, n, hd⟩ := id p1
    obtain ⟨⟨cls2, dd2, data2, sl2⟩, ho2, hc2, n2, hd2⟩ := id p2
    simp only at hc hd hc2 hd2
    subst hc hd hc2 hd2
    refine concat_meets ⟨_, ho, rfl⟩ ⟨_, ho2, rfl⟩ noFill_tuple_add seq_tuple_add PySem.F.slot_tuple_add PySem.F.entry_tuple_add (PySem.F.args_tuple_add_2 _ _)
      (tuple_addW0 a b _ _ n n2 dd dd2 sl sl2 (by simp)) ⟨ho, ho2, ?_⟩
    exact ⟨.ref b, H, I, rfl, q b H (Same.refl _) (by simpa using hb) (.inr (.inl rfl))⟩
  · refine op_catT pins s σ H _ _ v u Q I rx ry ⟨a, b, xs, ys, rfl, rfl, SqT.of ha, SqT.of hb, hx, hz, fun e => ?_, fun _ p hp => ?_⟩
    · subst e
      exact q a H (Same.refl _) (by simpa using ha) (.inl rfl)
    · exact q p _ (same_new hp _) upd_same (.inr (.inr hp))
/-! ### isinstance(x, (int, str)) -/
def rInst2 (xs : List V) (H : Hp) (Q : VK) : Prop := ∃ (x : V) (p : Addr) (cs : List String), xs = [x, .ref p] ∧ H p = some (.tup (cs.map V.ty)) ∧ tyName x H ≠ "" ∧ (∀ c ∈ cs, c = "str" ∨ c = "int" ∨ c = "bool" ∨ c = "tuple" ∨ c = "list") ∧ Q (.bl (cs.any (instB (tyName x H)))) H
theorem kitAny_of (K : PySem.W.Frag) {t : String} (ht : t = "NoneType" ∨ t = "bool" ∨ t = "int" ∨ t = "str" ∨ t = "list" ∨ t = "tuple" ∨ t = "dict") : ∀ {cs : List String}, (∀ c ∈ cs, c = "str" ∨ c = "int" ∨ c = "bool" ∨ c = "tuple" ∨ c = "list") →
    PySem.W.kitAny K (.type t) (cs.map Value.type) = some (cs.any (instB t))
  | [], _ => rfl
  | c :: r, h => by
    have e := kit_instB K ht (h c List.mem_cons_self)
    have ih := kitAny_of K ht (cs := r) fun c' hc => h c' (List.mem_cons_of_mem _ hc)
    rw [List.map_cons, List.any_cons]
    unfold PySem.W.kitAny
    rw [e]
    cases instB t c with
    | true => rfl
    | false => simpa using ih
theorem vals_ty {cs : List String} : ∀ {us : List Value}, Vals (cs.map V.ty) us → us = cs.map Value.type := by
  induction cs with
  | nil => intro us r; cases r; rfl
  | cons b bs ih => intro us r; cases r with | cons r1 r2 => rw [ih r2, show _ = Value.type b from r1]; rfl
theorem call_inst2 : CallR X (.builtin "isinstance") rInst2 := by
  intro pins s σ H xs us Q I r h
  obtain ⟨x, p, cs, rfl, hp, hx, hc, q⟩ := h
  obtain ⟨u, w', rfl, ru, rw'⟩ := vals2 r
  obtain rfl : w' = Value.ref p := rw'
  obtain ⟨ty, hn⟩ := tyName_of (K := X.K) hx
  have e := kitAny_of X.K hn hc
  obtain ⟨its, rv, ht⟩ := I.tupD hp
  have ei := vals_ty rv
  obtain ⟨⟨cls, dd, data, sl⟩, ho, hcl, n, hd⟩ := id ht
  simp only at hcl hd
  subst hcl hd
  rw [← ei] at e
  have fin : ∀ tk, EP X pins σ Q (.bool (cs.any (instB (tyName x H)))) { s with toks := tk } := fun tk => ⟨.bl _, H, I.tok _, rfl, q⟩
  cases x with
  | non => cases (show u = Value.none from ru); exact PySem.W.kia_tup PySem.W.kitx_none I.kIn True.intro ho e (fun z => nomatch z) fin
  | bl y => cases (show u = Value.bool y from ru); exact PySem.W.kia_tup PySem.W.kitx_bool I.kIn True.intro ho e (fun z => nomatch z) fin
  | int i => obtain ⟨t, q⟩ := (show ∃ t, u = Value.int i t from ru); cases q; exact PySem.W.kia_tup PySem.W.kitx_int I.kIn True.intro ho e (fun z => nomatch z) fin
  | str y => obtain ⟨t, q⟩ := (show ∃ t, u = Value.str y t from ru); cases q; exact PySem.W.kia_tup PySem.W.kitx_str I.kIn True.intro ho e (fun z => nomatch z) fin
  | ref a =>
    cases (show u = Value.ref a from ru)
    cases eh : H a with
    | none => exact absurd (by simp [tyName, eh]) hx
    | some o =>
      cases o with
      | lst ys =>
        obtain ⟨_, _, n', _, h1⟩ := (show ObjOk X.prog X.w H s.heap a (.lst ys) from I.hok a _ eh)
        have et : tyName (.ref a) H = "list" := by simp [tyName, eh]
        rw [et] at e fin
        exact PySem.W.kia_tup PySem.W.kitx_list I.kIn ⟨_, h1, rfl⟩ ho e (fun z => nomatch z) fin
      | tup ys =>
        obtain ⟨_, _, _, p2⟩ := (show ObjOk X.prog X.w H s.heap a (.tup ys) from I.hok a _ eh)
        obtain ⟨o2, h1, h2, _⟩ := p2
        have et : tyName (.ref a) H = "tuple" := by simp [tyName, eh]
        rw [et] at e fin
        exact PySem.W.kia_tup PySem.W.kitx_tuple I.kIn ⟨o2, h1, h2⟩ ho e (fun z => nomatch z) fin
      | dK ys =>
        obtain ⟨_, _, vs, _, p2⟩ := (show ObjOk X.prog X.w H s.heap a (.dK ys) from I.hok a _ eh)
        obtain ⟨o2, es, ep, h1, h2, _⟩ := p2
        have et : tyName (.ref a) H = "dict" := by simp [tyName, eh]
        rw [et] at e fin
        exact PySem.W.kia_tup PySem.W.kitx_dict I.kIn ⟨o2, h1, h2.1⟩ ho e (fun z => nomatch z) fin
      | _ => exact absurd (by simp [tyName, eh]) hx
  | _ => exact absurd rfl hx
/-- over a tuple that stays -/
theorem comp_tup {te : TE} {tt : TT} {g : TG} {Q : VK} {ix : List (Option Nat)} {K : PySem.W.Frag} {a : Addr} {xs : List V} {D0 : Addr} {H1 : Hp} (Pv : Nat → List V → Hp → Prop) (h0 : Pv 0 [] (upd H1 D0 (.lst []))) (hl : ∀ i acc H2, Pv i acc H2 → SqT K H2 a xs)
    (hs : ∀ i acc H2, i < xs.length → Pv i acc H2 → H2 D0 = some (.lst acc) → acc.length < sizeLine ∧ g (xs.getD i .non) (tau ix σ) H2 fun τ H4 => Kept0 ix σ τ ∧
      tt τ H4 fun b H5 => if b = true then te τ H5 fun y H6 => H6 D0 = some (.lst acc) ∧ Nx xs.length Pv i (acc ++ [y]) (upd H6 D0 (.lst (acc ++ [y]))) else H5 D0 = some (.lst acc) ∧ Nx xs.length Pv i acc H5)
    (hd : ∀ acc H2, Pv xs.length acc H2 → H2 D0 = some (.lst acc) → Q (.ref D0) H2) : CompW ix σ g tt te Q (Itt K a) D0 H1 := comp_it (ix := ix) (σ := σ) (g := g) (tt := tt) (te := te) (Q := Q) (J := Itt K a) (H1 := H1) (D0 := D0) (n := xs.length) (fun i => xs.getD i .non) Pv h0
  (fun i acc H2 hi p _ => ⟨⟨xs, xs[i], hl i acc H2 p, by simp [hi]⟩, fun x H3 y => ⟨y.1, by
    have := y.2 xs (hl i acc H2 p)
    simp [List.getD_eq_getElem?_getD, this]⟩⟩) (fun acc H2 p _ => ⟨xs, hl _ acc H2 p, Nat.le_refl _⟩) hs hd
end
theorem hu151 {A : Around} {k : Nat} (hr : Room k A) : A.units + 151 < cLine := by
  have := hr.un
  omega
section
variable {X : Cx}
theorem m2_of {o e f : Expr} {m : Str} {apos cpos : Pos} (hb : ∀ w : Sem Value, attributeBase o m X.env w = w) (he : notStar e = true) (hf : notStar f = true) (hl : (apos.endLine == cpos.line) = true) : M2 X o m apos e f cpos := by
  refine ⟨hb _, ?_, hl, ?_⟩
  · rw [star_cons he, star_cons hf]; rfl
  · rw [star_cons he, star_cons hf]; rfl
end
section
variable {X : Cx}
theorem op_isnot_bl : OpR X (compareOp .IsNot) (fun x y H Q => ∃ i j, x = .bl i ∧ y = .bl j ∧ Q (.bl (i != j)) H) := by
  intro pins s σ H x y v u Q I rx ry h
  obtain ⟨i, j, rfl, rfl, q⟩ := h
  cases rx
  cases ry
  exact isnot_bool ⟨.bl _, H, I, rfl, q⟩
def rIsNotA : R2 := fun x y H Q => (y = .non ∧ Q (.bl (!decide (x = .non))) H) ∨ ∃ i j, x = .bl i ∧ y = .bl j ∧ Q (.bl (i != j)) H
theorem op_isNotA : OpR X (compareOp .IsNot) rIsNotA := op_notN.or op_isnot_bl
end
section
variable {σ : St} {H : Hp} {Q : VK} {K : PySem.W.Frag}
theorem v_isNotB {i j : Bool} (h : Q (.bl (i != j)) H) : rIsNotA (.bl i) (.bl j) H Q := .inr ⟨i, j, rfl, rfl, h⟩
theorem v_isNotN {x : V} (h : Q (.bl (!decide (x = .non))) H) : rIsNotA x .non H Q := .inl ⟨rfl, h⟩
theorem v_disp {trs : List (TE × TE)} (h : ∀ p, H p = none → tPairs trs σ (upd H p (.dK [])) fun ps H2 => H2 p = some (.dK []) ∧ ∃ kvs : List (Key × V), ps = kvs.map (fun kv => (kV kv.1, kv.2)) ∧ kvs.length ≤ 15 ∧ Q (.ref p) (upd H2 p (.dK (mergeK [] kvs)))) : tDisp trs σ H Q := h
theorem v_pcons {tk tv : TE} {r : List (TE × TE)} {R : List (V × V) → Hp → Prop} (h : tk σ H fun x H1 => tv σ H1 fun y H2 => tPairs r σ H2 fun ps H3 => R ((x, y) :: ps) H3) : tPairs ((tk, tv) :: r) σ H R := h
theorem v_pnil {R : List (V × V) → Hp → Prop} (h : R [] H) : tPairs [] σ H R := h
theorem v_dget2 {td ty tx : TE} (h : td σ H fun x H1 => ∃ a, x = .ref a ∧ IsD H1 a ∧ ty σ H1 fun y H2 => tx σ H2 fun z H3 => ∃ o, DGet H3 a y o ∧ Q (o.getD z) H3) : tDGet2 td ty tx σ H Q := h
theorem v_iT {te : TE} {R : It → Hp → Prop} (h : te σ H fun x H1 => ∃ a, x = .ref a ∧ (∃ xs, SqT K H1 a xs) ∧ R (Itt K a) H1) : iTup K te σ H R := h
theorem v_slT {a : Addr} {xs : List V} {lo hi : Option Int} (e : H a = some (.tup xs)) (hw : ¬ (HT.sIx xs.length 0 lo = 0 ∧ HT.sIx xs.length xs.length hi = xs.length)) (h : ∀ p, H p = none → Q (.ref p) (upd H p (.tup (cutV xs lo hi)))) : rSlT K (.ref a) lo hi H Q := ⟨a, xs, rfl, SqT.of e, hw, h⟩
theorem cut_tail {x : V} {xs : List V} : cutV (x :: xs) (some 1) none = xs := by
  have e : HT.sIx (x :: xs).length 0 (some 1) = 1 := by
    have := HT.sIx_nat (x :: xs).length 0 1
    simp at this ⊢
    exact this
  unfold cutV
  rw [e, HT.sIx_none]
  simp
theorem tail_not_whole {x : V} {xs : List V} : ¬ (HT.sIx (x :: xs).length 0 (some 1) = 0 ∧ HT.sIx (x :: xs).length (x :: xs).length none = (x :: xs).length) := by
  have e : HT.sIx (x :: xs).length 0 (some 1) = 1 := by
    have := HT.sIx_nat (x :: xs).length 0 1
    simp at this ⊢
    exact this
  rw [e]
  rintro ⟨h, _⟩
  cases h
theorem v_inD {x : V} {p : Addr} {xs : List V} {ds : List D} {d : D} {neg : Bool} (hp : H p = some (.lst xs) ∨ H p = some (.tup xs)) (hs : Reps H ds xs) (hx : Rep H d x) (hd : D.deeps ds ≤ 150) (h : Q (.bl (if neg then !(ds.any fun e => deq e d) else ds.any fun e => deq e d)) H) : rInD neg x (.ref p) H Q :=
  ⟨p, xs, ds, d, rfl, hp, hs, hx, hd, h⟩
mutual
theorem Rep.same {H' : Hp} (s : Same H H') : ∀ {d : D} {v : V}, Rep H d v → Rep H' d v
  | .non, _, h => h
  | .bl _, _, h => h
  | .int _, _, h => h
  | .str _, _, h => h
  | .tup ds, _, ⟨a, xs, e, ha, hs⟩ => ⟨a, xs, e, s _ _ ha, Reps.same s hs⟩
  | .lst ds, _, ⟨a, xs, e, ha, hs⟩ => ⟨a, xs, e, s _ _ ha, Reps.same s hs⟩
theorem Reps.same {H' : Hp} (s : Same H H') : ∀ {ds : List D} {xs : List V}, Reps H ds xs → Reps H' ds xs
  | [], _, h => h
  | d :: ds, _, ⟨x, r, e, h1, h2⟩ => ⟨x, r, e, Rep.same s h1, Reps.same s h2⟩
end
/-! every text in it is short -/
mutual
def D.short : D → Bool
  | .str z => decide (z.length ≤ 100)
  | .tup ds => D.shorts ds
  | .lst ds => D.shorts ds
  | _ => true
def D.shorts : List D → Bool
  | [] => true
  | d :: ds => d.short && D.shorts ds
end
theorem tyName_tup {a : Addr} {xs : List V} (h : H a = some (.tup xs)) : tyName (.ref a) H = "tuple" := by simp [tyName, h]
theorem tyName_lst {a : Addr} {xs : List V} (h : H a = some (.lst xs)) : tyName (.ref a) H = "list" := by simp [tyName, h]
end
end L2

set_option Elab.async false
set_option linter.all false
set_option maxRecDepth 100000
namespace L2
open PySem PySem.Spec PyProof.Rows HT
section
variable {prog : Program} {w : World} {A : Around} {E : Value → Shared → Prop} {s : Shared}
/-- t[lo:hi] that is the whole of t: t itself -/
theorem whole_tuple {t sl : Addr} {items : Array Value} {vl vu : Value} {lo hi : Option Int} {Q : Value → Shared → Prop} (ht : IsTup s.heap t items) (hs : s.heap.IsSliceOf sl vl vu .none) (pl : IsPart vl lo) (pu : IsPart vu hi)
    (hw : sIx items.size 0 lo = 0 ∧ sIx items.size items.size hi = items.size) (h : Q (.ref t) s) : wpAny (model prog w) A (getItem (.ref t) (.ref sl)) Q E s := by
  have hTs : s.TypeIs (.ref sl) "slice" := by
    obtain ⟨os, hos, hcs, _⟩ := id hs
    exact ⟨os, hos, hcs⟩
  unfold getItem
  try with_reducible refine wpAny_holding ?_
  first | refine wpAny_bind (wpAny_pure ?_) | skip
  refine wpAny_bind (wpAny_sequenceKey ht.typeIs (by decide) ?_)
  refine wpAny_bind (wpAny_callSpecial?_slot (name := Str.ofString "__getitem__") ht.typeIs PyProof.Rows.slot_tuple_getitem
    (wpAny_call_entry PyProof.Rows.slot_tuple_getitem ht.typeIs entry_tuple_getitem ?_ (args_tuple_getitem _ _)))
  show wpAny _ _ (Builtin.Tuple.tupleItemsOf (.ref t) >>= _) _ _ s
  refine wpAny_bind (tupleItemsOf_ ht ?_)
  refine wpAny_bind (wpAny_typeOf hTs ?_)
  rw [if_pos (by decide)]
  refine wpAny_bind (sliceApplied_gen hs pl pu ?_)
  have yes : (((sIx items.size 0 lo : Nat) : Int) == 0 && (1 : Int) == 1 && (sIx items.size items.size hi - sIx items.size 0 lo) == items.size) = true := by
    rw [hw.1, hw.2]; simp
  show wpAny _ _ (if (((sIx items.size 0 lo : Nat) : Int) == 0 && (1 : Int) == 1 && (sIx items.size items.size hi - sIx items.size 0 lo) == items.size) = true then _ else _) _ _ s
  rw [if_pos yes]
  refine wpAny_bind (m := Builtin.Tuple.tupleIsExact _) (wpAny_bind (wpAny_typeOf ht.typeIs (wpAny_pure ?_)))
  show wpAny _ _ (if (Value.type "tuple" == Value.type "tuple") = true then _ else _) _ _ s
  rw [if_pos (by decide)]
  first
    | exact wpAny_bind (wpAny_pure (wpAny_pure ⟨_, rfl, wpAny_pure h⟩))
    | exact wpAny_bind (wpAny_rule (wpAny_pure ⟨_, rfl, wpAny_pure h⟩))
end
section
variable {X : Cx}
/-- t[lo:hi], any part -/
def rSlTA : V → Option Int → Option Int → Hp → VK → Prop := fun x lo hi H Q => ∃ a xs, x = .ref a ∧ H a = some (.tup xs) ∧ ∀ p H', Same H H' → H' p = some (.tup (cutV xs lo hi)) → (p = a ∨ H p = none) → Q (.ref p) H'
theorem sl_tupA : SlR X rSlTA := by
  intro pins s σ H x v vl vu lo hi sl Q I rx hs pl pu h
  obtain ⟨a, xs, rfl, hx, q⟩ := h
  by_cases hw : HT.sIx xs.length 0 lo = 0 ∧ HT.sIx xs.length xs.length hi = xs.length
  · cases rx
    obtain ⟨its, r, ht⟩ := I.tupD hx
    have hlen : its.toArray.size = xs.length := by rw [List.size_toArray]; exact r.length.symm
    refine ⟨"tuple", _, PyProof.Rows.slot_tuple_getitem.lookup, ht.typeIs, ?_⟩
    refine whole_tuple ht hs pl pu (by rw [hlen]; exact hw) ⟨.ref a, H, I, rfl, q a H (Same.refl _) ?_ (.inl rfl)⟩
    have e : cutV xs lo hi = xs := by unfold cutV; rw [hw.1, hw.2]; simp
    rw [e]; exact hx
  · exact sl_tup pins s σ H _ v vl vu lo hi sl Q I rx hs pl pu ⟨a, xs, rfl, SqT.of hx, hw, fun p hp => q p _ (same_new hp _) upd_same (.inr hp)⟩
end
section
variable {H : Hp} {Q : VK}
theorem v_slTA {a : Addr} {xs : List V} {lo hi : Option Int} (e : H a = some (.tup xs)) (h : ∀ p H', Same H H' → H' p = some (.tup (cutV xs lo hi)) → (p = a ∨ H p = none) → Q (.ref p) H') : rSlTA (.ref a) lo hi H Q := ⟨a, xs, rfl, e, h⟩
theorem v_catA {a b : Addr} {xs ys : List V} (ea : H a = some (.tup xs)) (eb : H b = some (.tup ys)) (hz : xs.length + ys.length ≤ sizeLine) (h : ∀ p H', Same H H' → H' p = some (.tup (xs ++ ys)) → (p = a ∨ p = b ∨ H p = none) → Q (.ref p) H') : rCatA (.ref a) (.ref b) H Q :=
  ⟨a, b, xs, ys, rfl, rfl, ea, eb, hz, h⟩
end
section
open PySem.SeqAt
variable {X : Cx}
/-- l != [] -/
def rNeNil : R2 := fun x y H Q => ∃ (a b : Addr) (xs : List V), x = .ref a ∧ y = .ref b ∧ H a = some (.lst xs) ∧ H b = some (.lst []) ∧ Q (.bl (!decide (xs = []))) H
theorem op_neNil (hu : X.A.units < cLine) : OpR X (compareOp .NotEq) rNeNil := by
  intro pins s σ H x y v u Q I rx ry h
  obtain ⟨a, b, xs, rfl, rfl, ha, hb, q⟩ := h
  cases rx
  cases ry
  obtain ⟨its, r1, p1⟩ := I.lstD ha
  obtain ⟨its2, r2, p2⟩ := I.lstD hb
  cases r2
  by_cases hx : xs = []
  · subst hx
    cases r1
    refine RcNeAt.lists (e := fun _ => true) p1 p2 rfl hu (fun j h1 _ => by simp at h1) X.prog X.w X.xe _ ⟨.bl _, H, I, rfl, ?_⟩
    simpa using q
  · have hl := r1.length
    refine RcNeAt.lists_lengths p1 p2 ?_ hu X.prog X.w X.xe _ ⟨.bl _, H, I, rfl, ?_⟩
    · cases xs with
      | nil => exact absurd rfl hx
      | cons x xs => cases r1; rfl
    · rw [decide_eq_false hx] at q; exact q
theorem v_neNil {H : Hp} {Q : VK} {a b : Addr} {xs : List V} (ha : H a = some (.lst xs)) (hb : H b = some (.lst [])) (h : Q (.bl (!decide (xs = []))) H) : rNeNil (.ref a) (.ref b) H Q := ⟨a, b, xs, rfl, rfl, ha, hb, h⟩
theorem hu0 {A : Around} {k : Nat} (hr : Room k A) : A.units < cLine := by
  have := hr.un
  omega
end
/-! no list of four in it: the hand is none of its lists; no tuple of ten -/
mutual
def D.no4 : D → Bool
  | .tup ds => decide (ds.length ≠ 10) && D.no4s ds
  | .lst ds => decide (ds.length ≠ 4) && D.no4s ds
  | _ => true
def D.no4s : List D → Bool
  | [] => true
  | d :: ds => d.no4 && D.no4s ds
end
mutual
theorem Rep.keep {H H' : Hp} {p : Addr} {o : List V} (kb : KeepBut p H H') (hp : H p = some (.lst o)) (ho : o.length = 4) : ∀ {d : D} {v : V}, Rep H d v → d.no4 = true → Rep H' d v
  | .non, _, h, _ => h
  | .bl _, _, h, _ => h
  | .int _, _, h, _ => h
  | .str _, _, h, _ => h
  | .tup ds, _, ⟨a, xs, e, ha, hs⟩, n => by
    have n' : ds.length ≠ 10 ∧ D.no4s ds = true := by simpa [D.no4] using n
    exact ⟨a, xs, e, kb a _ ha (by rintro rfl; rw [hp] at ha; cases ha), Reps.keep kb hp ho hs n'.2⟩
  | .lst ds, _, ⟨a, xs, e, ha, hs⟩, n => by
    have n' : ds.length ≠ 4 ∧ D.no4s ds = true := by simpa [D.no4] using n
    refine ⟨a, xs, e, kb a _ ha ?_, Reps.keep kb hp ho hs n'.2⟩
    rintro rfl
    rw [hp] at ha
    cases ha
    exact n'.1 (by rw [hs.length]; exact ho)
theorem Reps.keep {H H' : Hp} {p : Addr} {o : List V} (kb : KeepBut p H H') (hp : H p = some (.lst o)) (ho : o.length = 4) : ∀ {ds : List D} {xs : List V}, Reps H ds xs → D.no4s ds = true → Reps H' ds xs
  | [], _, h, _ => h
  | d :: ds, _, ⟨x, r, e, h1, h2⟩, n => by
    have n' : d.no4 = true ∧ D.no4s ds = true := by simpa [D.no4s] using n
    exact ⟨x, r, e, Rep.keep kb hp ho h1 n'.1, Reps.keep kb hp ho h2 n'.2⟩
end
theorem Hand.four {H : Hp} {p q : Addr} {c : Int} (h : Hand H p q c) : ∃ o, H p = some (.lst o) ∧ o.length = 4 := by
  obtain ⟨ns, a, b, e, _⟩ := h
  exact ⟨_, e, rfl⟩
theorem Rep.keepH {H H' : Hp} {p q : Addr} {c : Int} {d : D} {v : V} (h : Rep H d v) (hh : Hand H p q c) (kb : KeepBut p H H') (n : d.no4 = true) : Rep H' d v := by
  obtain ⟨o, hp, ho⟩ := hh.four
  exact h.keep kb hp ho n
theorem Reps.keepH {H H' : Hp} {p q : Addr} {c : Int} {ds : List D} {xs : List V} (h : Reps H ds xs) (hh : Hand H p q c) (kb : KeepBut p H H') (n : D.no4s ds = true) : Reps H' ds xs := by
  obtain ⟨o, hp, ho⟩ := hh.four
  exact h.keep kb hp ho n
/-- a thing that is laid: short texts, no list of four, so deep -/
def D.fine (d : D) (k : Nat) : Prop := d.short = true ∧ d.no4 = true ∧ d.deep ≤ k
def D.fines (ds : List D) (k : Nat) : Prop := D.shorts ds = true ∧ D.no4s ds = true ∧ D.deeps ds ≤ k
theorem fines_nil (k : Nat) : D.fines [] k := ⟨rfl, rfl, Nat.zero_le _⟩
theorem fines_cons {d : D} {ds : List D} {k : Nat} (h : d.fine k) (h2 : D.fines ds k) : D.fines (d :: ds) k := by
  refine ⟨?_, ?_, ?_⟩
  · simp [D.shorts, h.1, h2.1]
  · simp [D.no4s, h.2.1, h2.2.1]
  · exact Nat.max_le.mpr ⟨h.2.2, h2.2.2⟩
theorem fines_app : ∀ {ds es : List D} {k : Nat}, D.fines ds k → D.fines es k → D.fines (ds ++ es) k
  | [], es, k, _, h => h
  | d :: ds, es, k, h1, h2 => by
    obtain ⟨a, b, c⟩ := h1
    simp [D.shorts] at a
    simp [D.no4s] at b
    have c := Nat.max_le.mp (show max d.deep (D.deeps ds) ≤ k from c)
    exact fines_cons ⟨a.1, b.1, c.1⟩ (fines_app ⟨a.2, b.2, c.2⟩ h2)
theorem fines_mem : ∀ {ds : List D} {k : Nat}, D.fines ds k ↔ ∀ d ∈ ds, d.fine k
  | [], k => ⟨fun _ d h => by simp at h, fun _ => fines_nil k⟩
  | d :: ds, k => by
    constructor
    · rintro ⟨a, b, c⟩ e he
      simp [D.shorts] at a
      simp [D.no4s] at b
      have c := Nat.max_le.mp (show max d.deep (D.deeps ds) ≤ k from c)
      rcases List.mem_cons.mp he with rfl | he
      · exact ⟨a.1, b.1, c.1⟩
      · exact fines_mem.mp ⟨a.2, b.2, c.2⟩ e he
    · intro h
      exact fines_cons (h d List.mem_cons_self) (fines_mem.mpr fun e he => h e (List.mem_cons_of_mem _ he))
theorem fine_tup {ds : List D} {k : Nat} (h : D.fines ds k) (n : ds.length ≠ 10 := by first | (simp; done) | (simp; omega)) : (D.tup ds).fine (k + 1) := by
  refine ⟨h.1, ?_, Nat.succ_le_succ h.2.2⟩
  show (decide (ds.length ≠ 10) && D.no4s ds) = true
  rw [h.2.1, decide_eq_true n]; rfl
theorem fine_mono {d : D} {k m : Nat} (h : d.fine k) (hm : k ≤ m) : d.fine m := ⟨h.1, h.2.1, Nat.le_trans h.2.2 hm⟩
theorem fines_mono {ds : List D} {k m : Nat} (h : D.fines ds k) (hm : k ≤ m) : D.fines ds m := ⟨h.1, h.2.1, Nat.le_trans h.2.2 hm⟩
theorem fines_drop {ds : List D} {k : Nat} (h : D.fines ds k) (i : Nat) : D.fines (ds.drop i) k := fines_mem.mpr fun d hd => fines_mem.mp h d (List.mem_of_mem_drop hd)
theorem fines_take {ds : List D} {k : Nat} (h : D.fines ds k) (i : Nat) : D.fines (ds.take i) k := fines_mem.mpr fun d hd => fines_mem.mp h d (List.mem_of_mem_take hd)
theorem reps_drop {H : Hp} : ∀ {ds : List D} {xs : List V} (i : Nat), Reps H ds xs → Reps H (ds.drop i) (xs.drop i)
  | ds, xs, 0, h => h
  | [], xs, i + 1, h => by cases (show xs = [] from h); exact rfl
  | d :: ds, xs, i + 1, h => by
    obtain ⟨x, r, rfl, _, h2⟩ := h
    exact reps_drop i h2
theorem reps_take {H : Hp} : ∀ {ds : List D} {xs : List V} (i : Nat), Reps H ds xs → Reps H (ds.take i) (xs.take i)
  | ds, xs, 0, h => by simp only [List.take_zero]; exact rfl
  | [], xs, i + 1, h => by cases (show xs = [] from h); exact rfl
  | d :: ds, xs, i + 1, h => by
    obtain ⟨x, r, rfl, h1, h2⟩ := h
    exact ⟨x, r.take i, rfl, h1, reps_take i h2⟩
theorem cut_take {xs : List V} {k : Nat} (hk : k ≤ xs.length) : cutV xs none (some (k : Int)) = xs.take k := by
  unfold cutV
  rw [HT.sIx_none, HT.sIx_nat, Nat.min_eq_left hk]
  simp
theorem cut_drop {xs : List V} {k : Nat} (hk : k ≤ xs.length) : cutV xs (some (k : Int)) none = xs.drop k := by
  unfold cutV
  rw [HT.sIx_none, HT.sIx_nat, Nat.min_eq_left hk]
  rw [List.take_of_length_le (by rw [List.length_drop]; exact Nat.le_refl _)]
end L2
namespace L2
open PySem PySem.Spec PyProof.Rows
section
variable {H : Hp} {Q : VK} {v u : V} {ds es : List D}
/-! over laid tuples: a slice, a sum, an item, a display, the length, the list of it -/
theorem v_slTo {k : Nat} (h : Rep H (.tup ds) v) (hk : k ≤ ds.length) (q : ∀ v' H', Same H H' → Rep H' (.tup (ds.take k)) v' → Q v' H') : rSlTA v none (some (k : Int)) H Q := by
  obtain ⟨a, xs, rfl, e, hs⟩ := h
  refine v_slTA e fun p H' s e' _ => q _ H' s ⟨p, _, rfl, e', ?_⟩
  rw [cut_take (by rw [← hs.length]; exact hk)]
  exact reps_take k (hs.same s)
theorem v_slFrom {k : Nat} (h : Rep H (.tup ds) v) (hk : k ≤ ds.length) (q : ∀ v' H', Same H H' → Rep H' (.tup (ds.drop k)) v' → Q v' H') : rSlTA v (some (k : Int)) none H Q := by
  obtain ⟨a, xs, rfl, e, hs⟩ := h
  refine v_slTA e fun p H' s e' _ => q _ H' s ⟨p, _, rfl, e', ?_⟩
  rw [cut_drop (by rw [← hs.length]; exact hk)]
  exact reps_drop k (hs.same s)
theorem reps_appD : ∀ {ds : List D} {xs : List V} {es : List D} {ys : List V}, Reps H ds xs → Reps H es ys → Reps H (ds ++ es) (xs ++ ys)
  | [], xs, es, ys, h, h' => by cases (show xs = [] from h); exact h'
  | d :: ds, xs, es, ys, h, h' => by
    obtain ⟨x, r, rfl, h1, h2⟩ := h
    exact ⟨x, r ++ ys, rfl, h1, reps_appD h2 h'⟩
theorem v_catR (h : Rep H (.tup ds) v) (h2 : Rep H (.tup es) u) (hz : ds.length + es.length ≤ 1000) (q : ∀ v' H', Same H H' → Rep H' (.tup (ds ++ es)) v' → Q v' H') : rCatA v u H Q := by
  obtain ⟨a, xs, rfl, e, hs⟩ := h
  obtain ⟨b, ys, rfl, e2, hs2⟩ := h2
  exact v_catA e e2 (by rw [← hs.length, ← hs2.length]; exact small hz) fun p H' s e' _ => q _ H' s ⟨p, _, rfl, e', reps_appD (hs.same s) (hs2.same s)⟩
theorem v_ixR {k : Nat} {d : D} (h : Rep H (.tup ds) v) (hk : ds[k]? = some d) (q : ∀ y, Rep H d y → Q y H) : rIxA v (.int (k : Int)) H Q := by
  obtain ⟨a, xs, rfl, e, hs⟩ := h
  obtain ⟨y, ey, hy⟩ := hs.get' hk
  exact v_ixT e (atI_nat ey) (q y hy)
theorem v_tup1R {x : V} {d : D} (h : Rep H d x) (q : ∀ v' H', Same H H' → Rep H' (.tup [d]) v' → Q v' H') : [x].length ≤ sizeLine ∧ ∀ p, H p = none → Q (.ref p) (upd H p (.tup [x])) :=
  ⟨small (by simp), fun p hp => q _ _ (same_new hp _) ⟨p, _, rfl, upd_same, _, _, rfl, h.same (same_new hp _), rfl⟩⟩
theorem v_lenR (h : Rep H (.tup ds) v) (q : Q (.int ds.length) H) : rLen [v] H Q := by
  obtain ⟨a, xs, rfl, e, hs⟩ := h
  exact v_lenT e (by rw [← hs.length]; exact q)
theorem v_listR {K : PySem.W.Frag} (h : Rep H (.tup ds) v) (q : ∀ v' H', Same H H' → Rep H' (.lst ds) v' → Q v' H') : ∃ p ys, [v] = [V.ref p] ∧ (SqL K H p ys ∨ SqT K H p ys) ∧ ∀ l, H l = none → Q (.ref l) (upd H l (.lst ys)) := by
  obtain ⟨a, xs, rfl, e, hs⟩ := h
  exact ⟨a, xs, rfl, .inr (SqT.of e), fun l hl => q _ _ (same_new hl _) ⟨l, xs, rfl, upd_same, hs.same (same_new hl _)⟩⟩
theorem fine_un {k : Nat} (h : (D.tup ds).fine (k + 1)) : D.fines ds k := by
  have n' : ds.length ≠ 10 ∧ D.no4s ds = true := by simpa [D.no4] using h.2.1
  exact ⟨h.1, n'.2, Nat.le_of_succ_le_succ h.2.2⟩
theorem fine_lst {k : Nat} (h : D.fines ds k) (n : ds.length ≠ 4) : (D.lst ds).fine (k + 1) := by
  refine ⟨h.1, ?_, Nat.succ_le_succ h.2.2⟩
  show (decide (ds.length ≠ 4) && D.no4s ds) = true
  rw [h.2.1, decide_eq_true n]; rfl
theorem v_sharedN {c : Prop} [Decidable c] {F : Bool → Hp → Prop} {T : Hp → (Bool → Hp → Prop) → Prop} (R : Hp → Prop) (hR : ∀ H', R H' → F false H') (h1 : ¬ c → (∀ H', R H' → F false H') → T H F) (h2 : c → R H) :
    if (!decide c) = true then T H F else F false H := v_iteN (fun h => h1 h hR) (fun h => hR _ (h2 h))
end
end L2

set_option Elab.async false
set_option linter.all false
set_option maxRecDepth 100000
namespace L2
open PySem PySem.Spec PyProof.Rows
section
variable {X : Cx} {a b c e : Expr} {ta tb tc te : TE} {pos : Pos}
/-- a op1 b op2 c op3 d -/
def tChain3 (r r' r'' : R2) (ta tb tc td : TE) : TE := fun σ H Q => ta σ H fun x H1 => tb σ H1 fun y H2 => r x y H2 fun z H3 => ∃ k, z = .bl k ∧
  (if k = true then tc σ H3 fun w H4 => r' y w H4 fun z' H5 => ∃ k', z' = .bl k' ∧ (if k' = true then td σ H5 fun u H6 => r'' w u H6 Q else Q (.bl false) H5) else Q (.bl false) H3)
theorem pe_chain3 {op op' op'' : CmpOp} {r r' r'' : R2} (ho : OpR X (compareOp op) r) (ho' : OpR X (compareOp op') r') (ho'' : OpR X (compareOp op'') r'') (ha : PE X a ta) (hb : PE X b tb) (hc : PE X c tc) (he : PE X e te)
    (hm : lastMarks [op, op', op''] [b, c, e] = false := by with_unfolding_all rfl) : PE X (.Compare a [op, op', op''] [b, c, e] pos) (tChain3 r r' r'' ta tb tc te) := by
  intro pins s σ H Q I h
  refine Compare_chain (thn (ha pins s σ H _ I h) fun v s1 ⟨x, H1, I1, r1, q1⟩ => chain_link (thn (hb pins s1 σ H1 _ I1 q1) fun u s2 ⟨y, H2, I2, r2, q2⟩ =>
    thn (ho pins s2 σ H2 x y v u _ I2 r1 r2 q2) fun d s3 ⟨z, H3, I3, r3, k, e3, q3⟩ => ?_)) hm
  subst e3
  cases r3
  refine wpAny_truthy_bool ?_
  cases k with
  | false => exact ite_ff ⟨.bl false, H3, I3, rfl, q3⟩
  | true =>
    refine ite_tt (chain_link (thn (hc pins s3 σ H3 _ I3 q3) fun w' s4 ⟨z', H4, I4, r4, q4⟩ => thn (ho' pins s4 σ H4 y z' u w' _ I4 r2 r4 q4) fun d5 s5 ⟨z5, H5, I5, r5, k5, e5, q5⟩ => ?_))
    subst e5
    cases r5
    refine wpAny_truthy_bool ?_
    cases k5 with
    | false => exact ite_ff ⟨.bl false, H5, I5, rfl, q5⟩
    | true => exact ite_tt (chain_last (thn (he pins s5 σ H5 _ I5 q5) fun w6 s6 ⟨z6, H6, I6, r6, q6⟩ => ho'' pins s6 σ H6 z' z6 w' w6 Q I6 r4 r6 q6))
theorem v_chain3 {r r' r'' : R2} {td : TE} {σ : St} {H : Hp} {Q : VK} (h : ta σ H fun x H1 => tb σ H1 fun y H2 => r x y H2 fun z H3 => ∃ k, z = .bl k ∧
  (if k = true then tc σ H3 fun w H4 => r' y w H4 fun z' H5 => ∃ k', z' = .bl k' ∧ (if k' = true then td σ H5 fun u H6 => r'' w u H6 Q else Q (.bl false) H5) else Q (.bl false) H3)) : tChain3 r r' r'' ta tb tc td σ H Q := h
/-- a sign in a text -/
def rInSign : R2 := fun x y H Q => ∃ (c : Nat) (z : Str), x = .str ⟨#[c]⟩ ∧ y = .str z ∧ Q (.bl (z.cps.toList.contains c)) H
theorem op_inSign : OpR X (compareOp .In) rInSign := by
  intro pins s σ H x y v u Q I rx ry h
  obtain ⟨c, z, rfl, rfl, q⟩ := h
  refine op_in_str pins s σ H _ _ v u Q I rx ry ⟨_, _, rfl, rfl, ?_⟩
  have e : (!(Builtin.Str.occurrences z ⟨#[c]⟩ 0 z.length 1).isEmpty) = z.cps.toList.contains c := by
    rw [Bool.eq_iff_iff, StrLaws.found_iff]
    constructor
    · rintro ⟨i, h⟩
      have := (StrLaws.subAt_one z c i).mp h
      rw [List.contains_iff_mem]
      exact List.mem_of_getElem? this
    · intro h
      rw [List.contains_iff_mem] at h
      obtain ⟨i, hi⟩ := List.getElem?_of_mem h
      exact ⟨i, (StrLaws.subAt_one z c i).mpr hi⟩
  rw [e]; exact q
theorem v_inSign {c : Nat} {z : Str} {H : Hp} {Q : VK} (h : Q (.bl (z.cps.toList.contains c)) H) : rInSign (.str ⟨#[c]⟩) (.str z) H Q := ⟨c, z, rfl, rfl, h⟩
end
/-! a hand that is a list of three numbers; so many draws at the most -/
def Hd (H : Hp) (p : Addr) (c : Int) : Prop := ∃ a b n : Int, H p = some (.lst [.int a, .int b, .int n]) ∧ 0 ≤ a ∧ 0 ≤ b ∧ b < 4000000000000000000 ∧ 0 ≤ n ∧ n ≤ c
theorem Hd.same {H H' : Hp} {p : Addr} {c : Int} (h : Hd H p c) (s : Same H H') : Hd H' p c := by
  obtain ⟨a, b, n, h1, r⟩ := h
  exact ⟨a, b, n, s _ _ h1, r⟩
theorem Hd.new {H : Hp} {p l : Addr} {c : Int} {o : HO} (h : Hd H p c) (hl : H l = none) : Hd (upd H l o) p c := h.same (same_new hl o)
theorem Hd.mono {H : Hp} {p : Addr} {c c' : Int} (h : Hd H p c) (hc : c ≤ c') : Hd H p c' := by
  obtain ⟨a, b, n, h1, h2, h3, h4, h5, h6⟩ := h
  exact ⟨a, b, n, h1, h2, h3, h4, h5, by omega⟩
theorem Hd.nn {H : Hp} {p : Addr} {c : Int} (h : Hd H p c) : 0 ≤ c := by
  obtain ⟨a, b, n, h1, h2, h3, h4, h5, h6⟩ := h
  omega
theorem Hd.ne {H : Hp} {p l : Addr} {c : Int} (h : Hd H p c) (hl : H l = none) : l ≠ p := by
  obtain ⟨a, b, n, e, _⟩ := h
  exact (ne_of_none e hl).symm
theorem Hd.upd_own {H : Hp} {p l : Addr} {c : Int} {o : HO} (h : Hd H p c) (n1 : l ≠ p) : Hd (upd H l o) p c := by
  obtain ⟨a, b, n, h1, r⟩ := h
  exact ⟨a, b, n, by rw [upd_ne n1.symm]; exact h1, r⟩
def spTake : Sp := fun vs H Q _ => ∃ (p : Addr) (many c : Int), vs = [.ref p, .int many] ∧ Hd H p c ∧ 0 < many ∧ many < 1073741824 ∧ c < 1000000000 ∧ ∀ (r : Int) H', 0 ≤ r → r < many → Hd H' p (c + 1) → KeepBut p H H' → Q (.int r) H'
theorem use_take {H : Hp} {Q : VK} {E : XK} {p : Addr} {many c : Int} (hh : Hd H p c) (h1 : 0 < many) (h2 : many < 1073741824) (h3 : c < 1000000000) (k : ∀ (r : Int) H', 0 ≤ r → r < many → Hd H' p (c + 1) → KeepBut p H H' → Q (.int r) H') :
    spTake ([.ref p, .int many] ++ []) H Q E := ⟨p, many, c, rfl, hh, h1, h2, h3, k⟩
/-! no list in it begins with a number: the hand is none of its lists -/
mutual
def D.noI : D → Bool
  | .tup ds => D.noIs ds
  | .lst (.int _ :: _) => false
  | .lst ds => D.noIs ds
  | _ => true
def D.noIs : List D → Bool
  | [] => true
  | d :: ds => d.noI && D.noIs ds
end
theorem noI_lst {ds : List D} (h : D.noIs ds = true) (n : ∀ i r, ds ≠ .int i :: r) : (D.lst ds).noI = true := by
  cases ds with
  | nil => exact h
  | cons d r =>
    cases d with
    | int i => exact absurd rfl (n i r)
    | _ => simpa [D.noI] using h
theorem noI_lst' {ds : List D} (h : (D.lst ds).noI = true) : D.noIs ds = true ∧ ∀ i r, ds ≠ .int i :: r := by
  cases ds with
  | nil => exact ⟨rfl, fun i r e => by cases e⟩
  | cons d r =>
    cases d with
    | int i => simp [D.noI] at h
    | _ => exact ⟨by simpa [D.noI] using h, fun i r e => by cases e⟩
mutual
theorem Rep.keepI {H H' : Hp} {p : Addr} {i : Int} {o : List V} (kb : KeepBut p H H') (hp : H p = some (.lst (.int i :: o))) : ∀ {d : D} {v : V}, Rep H d v → d.noI = true → Rep H' d v
  | .non, _, h, _ => h
  | .bl _, _, h, _ => h
  | .int _, _, h, _ => h
  | .str _, _, h, _ => h
  | .tup ds, _, ⟨a, xs, e, ha, hs⟩, n => by
    have n' : D.noIs ds = true := by simpa [D.noI] using n
    exact ⟨a, xs, e, kb a _ ha (by rintro rfl; rw [hp] at ha; cases ha), Reps.keepI kb hp hs n'⟩
  | .lst ds, _, ⟨a, xs, e, ha, hs⟩, n => by
    have n' := noI_lst' n
    refine ⟨a, xs, e, kb a _ ha ?_, Reps.keepI kb hp hs n'.1⟩
    rintro rfl
    rw [hp] at ha
    cases ha
    cases ds with
    | nil => cases (show V.int i :: o = [] from hs)
    | cons d r =>
      obtain ⟨x, r', e', hd, _⟩ := hs
      cases e'
      cases d with
      | int j => exact n'.2 j r rfl
      | non => cases (show V.int i = .non from hd)
      | bl b => cases (show V.int i = .bl b from hd)
      | str b => cases (show V.int i = .str b from hd)
      | tup ds => obtain ⟨_, _, e, _⟩ := hd; cases e
      | lst ds => obtain ⟨_, _, e, _⟩ := hd; cases e
theorem Reps.keepI {H H' : Hp} {p : Addr} {i : Int} {o : List V} (kb : KeepBut p H H') (hp : H p = some (.lst (.int i :: o))) : ∀ {ds : List D} {xs : List V}, Reps H ds xs → D.noIs ds = true → Reps H' ds xs
  | [], _, h, _ => h
  | d :: ds, _, ⟨x, r, e, h1, h2⟩, n => by
    have n' : d.noI = true ∧ D.noIs ds = true := by simpa [D.noIs] using n
    exact ⟨x, r, e, Rep.keepI kb hp h1 n'.1, Reps.keepI kb hp h2 n'.2⟩
end
theorem Rep.keepT {H H' : Hp} {p : Addr} {c : Int} {d : D} {v : V} (h : Rep H d v) (hh : Hd H p c) (kb : KeepBut p H H') (n : d.noI = true) : Rep H' d v := by
  obtain ⟨a, b, m, hp, _⟩ := hh
  exact h.keepI kb hp n
theorem Reps.keepT {H H' : Hp} {p : Addr} {c : Int} {ds : List D} {xs : List V} (h : Reps H ds xs) (hh : Hd H p c) (kb : KeepBut p H H') (n : D.noIs ds = true) : Reps H' ds xs := by
  obtain ⟨a, b, m, hp, _⟩ := hh
  exact h.keepI kb hp n
/-- a thing that is laid: short texts, no list that begins with a number, so deep -/
def D.fin (d : D) (k : Nat) : Prop := d.short = true ∧ d.noI = true ∧ d.deep ≤ k
def D.fins (ds : List D) (k : Nat) : Prop := D.shorts ds = true ∧ D.noIs ds = true ∧ D.deeps ds ≤ k
theorem fins_nil (k : Nat) : D.fins [] k := ⟨rfl, rfl, Nat.zero_le _⟩
theorem fins_cons {d : D} {ds : List D} {k : Nat} (h : d.fin k) (h2 : D.fins ds k) : D.fins (d :: ds) k := by
  refine ⟨?_, ?_, ?_⟩
  · simp [D.shorts, h.1, h2.1]
  · simp [D.noIs, h.2.1, h2.2.1]
  · exact Nat.max_le.mpr ⟨h.2.2, h2.2.2⟩
theorem fins_un {d : D} {ds : List D} {k : Nat} (h : D.fins (d :: ds) k) : d.fin k ∧ D.fins ds k := by
  obtain ⟨a, b, c⟩ := h
  simp [D.shorts] at a
  simp [D.noIs] at b
  have c := Nat.max_le.mp (show max d.deep (D.deeps ds) ≤ k from c)
  exact ⟨⟨a.1, b.1, c.1⟩, ⟨a.2, b.2, c.2⟩⟩
theorem fins_app : ∀ {ds es : List D} {k : Nat}, D.fins ds k → D.fins es k → D.fins (ds ++ es) k
  | [], es, k, _, h => h
  | d :: ds, es, k, h1, h2 => fins_cons (fins_un h1).1 (fins_app (fins_un h1).2 h2)
theorem fins_mem : ∀ {ds : List D} {k : Nat}, D.fins ds k ↔ ∀ d ∈ ds, d.fin k
  | [], k => ⟨fun _ d h => by simp at h, fun _ => fins_nil k⟩
  | d :: ds, k => by
    constructor
    · intro h e he
      rcases List.mem_cons.mp he with rfl | he
      · exact (fins_un h).1
      · exact fins_mem.mp (fins_un h).2 e he
    · intro h
      exact fins_cons (h d List.mem_cons_self) (fins_mem.mpr fun e he => h e (List.mem_cons_of_mem _ he))
theorem fin_tup {ds : List D} {k : Nat} (h : D.fins ds k) : (D.tup ds).fin (k + 1) := ⟨h.1, h.2.1, Nat.succ_le_succ h.2.2⟩
theorem fin_lst {ds : List D} {k : Nat} (h : D.fins ds k) (n : ∀ i r, ds ≠ .int i :: r) : (D.lst ds).fin (k + 1) := ⟨h.1, noI_lst h.2.1 n, Nat.succ_le_succ h.2.2⟩
theorem fin_un {ds : List D} {k : Nat} (h : (D.tup ds).fin (k + 1)) : D.fins ds k := ⟨h.1, h.2.1, Nat.le_of_succ_le_succ h.2.2⟩
theorem fin_mono {d : D} {k m : Nat} (h : d.fin k) (hm : k ≤ m) : d.fin m := ⟨h.1, h.2.1, Nat.le_trans h.2.2 hm⟩
theorem fins_mono {ds : List D} {k m : Nat} (h : D.fins ds k) (hm : k ≤ m) : D.fins ds m := ⟨h.1, h.2.1, Nat.le_trans h.2.2 hm⟩
theorem fins_drop {ds : List D} {k : Nat} (h : D.fins ds k) (i : Nat) : D.fins (ds.drop i) k := fins_mem.mpr fun d hd => fins_mem.mp h d (List.mem_of_mem_drop hd)
theorem fins_take {ds : List D} {k : Nat} (h : D.fins ds k) (i : Nat) : D.fins (ds.take i) k := fins_mem.mpr fun d hd => fins_mem.mp h d (List.mem_of_mem_take hd)
theorem fin_str {z : Str} (h : z.length ≤ 100) (k : Nat) : (D.str z).fin k := ⟨by simp [D.short, h], rfl, Nat.zero_le _⟩
theorem fin_int (i : Int) (k : Nat) : (D.int i).fin k := ⟨rfl, rfl, Nat.zero_le _⟩
theorem fin_bool (i : Bool) (k : Nat) : (D.bl i).fin k := ⟨rfl, rfl, Nat.zero_le _⟩
theorem fin_non (k : Nat) : D.non.fin k := ⟨rfl, rfl, Nat.zero_le _⟩
end L2

set_option Elab.async false
set_option linter.all false
set_option maxRecDepth 100000
set_option maxHeartbeats 4000000
namespace K14
open PySem L2
local macro_rules | `(tactic| walk_at "as") => `(tactic| with_reducible assumption)
local macro_rules | `(tactic| walk_at "hand") => `(tactic| first | walk_at "as" | (with_reducible refine' Hand.new ?hdx ?hdy; (case hdy => walk_at "as"); (case hdx => walk_at "hand")))
local macro_rules | `(tactic| walk_at "same") => `(tactic| first | with_reducible exact Same.refl _ | walk_at "as" | (with_reducible refine' Same.trans ?smx (same_new ?smy _); (case smy => walk_at "as"); (case smx => walk_at "same")))
local macro_rules | `(tactic| walk_at "ne") => `(tactic| first | walk_at "as" | (apply Ne.symm; walk_at "as"))
local macro_rules | `(tactic| walk_at "hg") => `(tactic| first | with_reducible exact upd_same | walk_at "as" | (with_reducible refine' upd_new ?hgx ?hgy; (case hgy => walk_at "as"); (case hgx => walk_at "hg")) | (with_reducible refine' Eq.trans (upd_ne ?hgn) ?hgx; (case hgn => walk_at "ne"); (case hgx => walk_at "hg")))
local macro_rules | `(tactic| walk_at "v") => `(tactic| (with_reducible first
  | refine iteT ?_ | refine iteF ?_ | refine v_iteNT ?_ | refine v_iteNF ?_ | refine v_abs ?_ | refine v_seq ?_ | refine v_asg ?_ | refine v_ifS ?_ | refine v_ret ?_ | refine v_retN ?_ | refine v_next ?_ | refine v_break ?_ | refine v_cont ?_ | refine v_drop ?_ | refine v_name ?_ | refine v_gsub ?_
  | refine v_C ?_ | refine v_op ?_ | refine v_un ?_ | refine v_neg ?_ | refine v_test ?_ | refine v_tB ?_ | refine v_bl ?_ | refine v_or ?_ | refine v_and ?_ | refine v_not ?_ | refine v_andV ?_ | refine v_orV ?_ | refine v_notV ?_ | refine v_if ?_ | refine v_chain ?_
  | refine v_call ?_ | refine v_CB ?_ | refine v_cons ?_ | refine v_nil ?_ | refine v_lst ?_ | refine v_tup ?_ | refine v_sl ?_ | refine v_noPart ?_ | refine v_part ?_ | refine v_int ?_ | refine v_bm ?_ | refine v_true ?_
  | refine v_rI0 ?_ | refine v_addI ?_ | refine v_ltI ?_ | refine v_leI ?_ | refine v_gtI ?_ | refine v_geI ?_ | refine v_ltS ?_ | refine v_leS ?_ | refine v_gtS ?_ | refine v_geS ?_
  | refine v_eqI ?_ | refine v_eqS ?_ | refine v_eqB ?_ | refine v_neI ?_ | refine v_neS ?_ | refine v_neB ?_ | refine v_isB ?_ | refine v_isN ?_ | refine v_comp ?_ | refine v_iR1 ?_ | refine v_iStr ?_ | refine v_iStr' ?_ | refine v_iL ?_
  | (refine' v_var ?hv ?_; (case hv => with_unfolding_all rfl))
  | (refine' v_ixL ?h1 ?h2 ?_; (case h1 => walk_at "hg"); (case h2 => with_unfolding_all rfl))
  | (refine' v_ixT ?h1 ?h2 ?_; (case h1 => walk_at "hg"); (case h2 => with_unfolding_all rfl))
  | (refine' v_setL ?h1 ?h2 ?_; (case h1 => walk_at "hg"); (case h2 => with_unfolding_all rfl))
  | (refine' v_lenL ?h1 ?_; (case h1 => walk_at "hg"))
  | (refine' v_lenT ?h1 ?_; (case h1 => walk_at "hg"))
  | (refine v_instT ?h1 ?h2 ?h3 ?_; (case h1 => (simp [tyName, instB, *]; done)); (case h2 => (simp [tyName, *]; done)); (case h3 => (simp; done)))
  | (refine v_instF ?h1 ?h2 ?h3 ?_; (case h1 => (simp [tyName, instB, *]; done)); (case h2 => (simp [tyName, *]; done)); (case h3 => (simp; done)))
  | (refine v_mulI ?h1 ?_; (case h1 => (unfold CMul; omega)))
  | (refine v_rI ?h1 ?_; (case h1 => first | omega | (unfold CDiv; omega) | (unfold CPow; omega)))))
local macro_rules | `(tactic| walk_at "v2") => `(tactic| (with_reducible first | refine v_isNotB ?_ | refine v_isNotN ?_ | refine v_disp ?_ | refine v_pcons ?_ | refine v_pnil ?_ | refine v_dget2 ?_ | refine v_iT ?_ | refine v_chain3 ?_ | refine v_inSign ?_))
local macro_rules | `(tactic| walk_at "w") => `(tactic| repeat (first | walk_at "v" | walk_at "v2"))
local macro_rules | `(tactic| walk_at "vs") => `(tactic| repeat (walk_at "v"))
def top (i : Nat) : Stmt := PySem.Challenge.pw_webstore_k14_what_ways_are.main.body.getD i (.Pass ⟨0, 0, 0, 0⟩)
abbrev s_is_name : Stmt := top 2
abbrev s_is_number : Stmt := top 3
abbrev s_is_way : Stmt := top 6
abbrev s_are_times : Stmt := top 7
abbrev s__law_hand : Stmt := top 9
abbrev s__law_take : Stmt := top 10
abbrev s__law_kinds : Stmt := top 11
abbrev s__law_leaf : Stmt := top 12
abbrev s__law_way : Stmt := top 13
abbrev s__law_is_name : Stmt := top 14
abbrev s__law_is_times : Stmt := top 15
abbrev s__law_due : Stmt := top 16
abbrev s__law_odd : Stmt := top 17
abbrev s__law_spoilt : Stmt := top 18
abbrev s__law_right : Stmt := top 19
abbrev s_law : Stmt := top 20
theorem sc_is_name : FnScope ["thing"] ["thing"] (defScope s_is_name) := ⟨rfl, rfl, rfl, by decide +kernel, rfl, by decide +kernel, by decide +kernel⟩
theorem sc_is_number : FnScope ["thing"] ["thing"] (defScope s_is_number) := ⟨rfl, rfl, rfl, by decide +kernel, rfl, by decide +kernel, by decide +kernel⟩
theorem sc_is_way : FnScope ["thing", "word", "parts"] ["thing"] (defScope s_is_way) := ⟨rfl, rfl, rfl, by decide +kernel, rfl, by decide +kernel, by decide +kernel⟩
theorem sc_are_times : FnScope ["low", "high"] ["low", "high"] (defScope s_are_times) := ⟨rfl, rfl, rfl, by decide +kernel, rfl, by decide +kernel, by decide +kernel⟩
theorem sc__law_hand : FnScope ["_law_script", "_law_k", "_law_cell", "_law_folded", "_law_one"] ["_law_script", "_law_k"] (defScope s__law_hand) := ⟨rfl, rfl, rfl, by decide +kernel, rfl, by decide +kernel, by decide +kernel⟩
theorem sc__law_take : FnScope ["_law_hand_here", "_law_many", "_law_digit", "_law_c", "_law_m"] ["_law_hand_here", "_law_many"] (defScope s__law_take) := ⟨rfl, rfl, rfl, by decide +kernel, rfl, by decide +kernel, by decide +kernel⟩
theorem sc__law_kinds : FnScope ["_law_hand_here", "_law_some", "_law_first", "_law_many"] ["_law_hand_here"] (defScope s__law_kinds) := ⟨rfl, rfl, rfl, by decide +kernel, rfl, by decide +kernel, by decide +kernel⟩
theorem sc__law_leaf : FnScope ["_law_hand_here", "_law_kinds_here", "_law_how", "_law_kind"] ["_law_hand_here", "_law_kinds_here"] (defScope s__law_leaf) := ⟨rfl, rfl, rfl, by decide +kernel, rfl, by decide +kernel, by decide +kernel⟩
theorem sc__law_way : FnScope ["_law_hand_here", "_law_kinds_here", "_law_room", "_law_nest", "_law_how", "_law_low", "_law_high", "_law_left", "_law_one"] ["_law_hand_here", "_law_kinds_here", "_law_room", "_law_nest"] (defScope s__law_way) := ⟨rfl, rfl, rfl, by decide +kernel, rfl, by decide +kernel, by decide +kernel⟩
theorem sc__law_is_name : FnScope ["_law_thing", "_law_letters"] ["_law_thing"] (defScope s__law_is_name) := ⟨rfl, rfl, rfl, by decide +kernel, rfl, by decide +kernel, by decide +kernel⟩
theorem sc__law_is_times : FnScope ["_law_thing"] ["_law_thing"] (defScope s__law_is_times) := ⟨rfl, rfl, rfl, by decide +kernel, rfl, by decide +kernel, by decide +kernel⟩
theorem sc__law_due : FnScope ["_law_thing", "_law_fine", "_law_size"] ["_law_thing"] (defScope s__law_due) := ⟨rfl, rfl, rfl, by decide +kernel, rfl, by decide +kernel, by decide +kernel⟩
theorem sc__law_odd : FnScope ["_law_hand_here", "_law_some"] ["_law_hand_here"] (defScope s__law_odd) := ⟨rfl, rfl, rfl, by decide +kernel, rfl, by decide +kernel, by decide +kernel⟩
theorem sc__law_spoilt : FnScope ["_law_hand_here", "_law_thing", "_law_how", "_law_at", "_law_part"] ["_law_hand_here", "_law_thing"] (defScope s__law_spoilt) := ⟨rfl, rfl, rfl, by decide +kernel, rfl, by decide +kernel, by decide +kernel⟩
theorem sc__law_right : FnScope ["_law_thing", "_law_found"] ["_law_thing"] (defScope s__law_right) := ⟨rfl, rfl, rfl, by decide +kernel, rfl, by decide +kernel, by decide +kernel⟩
theorem sc_law : FnScope ["_law_script", "_law_deep", "_law_k", "_law_hand_here", "_law_way_here", "_law_turn"] ["_law_script"] (defScope s_law) := ⟨rfl, rfl, rfl, by decide +kernel, rfl, by decide +kernel, by decide +kernel⟩
theorem q_is_name_LONGEST_NAME : NmOk (defScope s_is_name) "LONGEST_NAME" .globalImplicit := ⟨by decide +kernel, by decide +kernel, by decide +kernel, by decide +kernel⟩
theorem q_is_name_all : NmOk (defScope s_is_name) "all" .globalImplicit := ⟨by decide +kernel, by decide +kernel, by decide +kernel, by decide +kernel⟩
theorem q_is_name_isinstance : NmOk (defScope s_is_name) "isinstance" .globalImplicit := ⟨by decide +kernel, by decide +kernel, by decide +kernel, by decide +kernel⟩
theorem q_is_name_len : NmOk (defScope s_is_name) "len" .globalImplicit := ⟨by decide +kernel, by decide +kernel, by decide +kernel, by decide +kernel⟩
theorem q_is_name_str : NmOk (defScope s_is_name) "str" .globalImplicit := ⟨by decide +kernel, by decide +kernel, by decide +kernel, by decide +kernel⟩
theorem q_is_name_thing : NmOk (defScope s_is_name) "thing" .local := ⟨by decide +kernel, by decide +kernel, by decide +kernel, by decide +kernel⟩
theorem q_is_number_bool : NmOk (defScope s_is_number) "bool" .globalImplicit := ⟨by decide +kernel, by decide +kernel, by decide +kernel, by decide +kernel⟩
theorem q_is_number_int : NmOk (defScope s_is_number) "int" .globalImplicit := ⟨by decide +kernel, by decide +kernel, by decide +kernel, by decide +kernel⟩
theorem q_is_number_isinstance : NmOk (defScope s_is_number) "isinstance" .globalImplicit := ⟨by decide +kernel, by decide +kernel, by decide +kernel, by decide +kernel⟩
theorem q_is_number_thing : NmOk (defScope s_is_number) "thing" .local := ⟨by decide +kernel, by decide +kernel, by decide +kernel, by decide +kernel⟩
theorem q_is_way_are_times : NmOk (defScope s_is_way) "are_times" .globalImplicit := ⟨by decide +kernel, by decide +kernel, by decide +kernel, by decide +kernel⟩
theorem q_is_way_is_name : NmOk (defScope s_is_way) "is_name" .globalImplicit := ⟨by decide +kernel, by decide +kernel, by decide +kernel, by decide +kernel⟩
theorem q_is_way_is_way : NmOk (defScope s_is_way) "is_way" .globalImplicit := ⟨by decide +kernel, by decide +kernel, by decide +kernel, by decide +kernel⟩
theorem q_is_way_isinstance : NmOk (defScope s_is_way) "isinstance" .globalImplicit := ⟨by decide +kernel, by decide +kernel, by decide +kernel, by decide +kernel⟩
theorem q_is_way_len : NmOk (defScope s_is_way) "len" .globalImplicit := ⟨by decide +kernel, by decide +kernel, by decide +kernel, by decide +kernel⟩
theorem q_is_way_parts : NmOk (defScope s_is_way) "parts" .local := ⟨by decide +kernel, by decide +kernel, by decide +kernel, by decide +kernel⟩
theorem q_is_way_thing : NmOk (defScope s_is_way) "thing" .local := ⟨by decide +kernel, by decide +kernel, by decide +kernel, by decide +kernel⟩
theorem q_is_way_tuple : NmOk (defScope s_is_way) "tuple" .globalImplicit := ⟨by decide +kernel, by decide +kernel, by decide +kernel, by decide +kernel⟩
theorem q_is_way_word : NmOk (defScope s_is_way) "word" .local := ⟨by decide +kernel, by decide +kernel, by decide +kernel, by decide +kernel⟩
theorem q_are_times_MOST_TIMES : NmOk (defScope s_are_times) "MOST_TIMES" .globalImplicit := ⟨by decide +kernel, by decide +kernel, by decide +kernel, by decide +kernel⟩
theorem q_are_times_high : NmOk (defScope s_are_times) "high" .local := ⟨by decide +kernel, by decide +kernel, by decide +kernel, by decide +kernel⟩
theorem q_are_times_is_number : NmOk (defScope s_are_times) "is_number" .globalImplicit := ⟨by decide +kernel, by decide +kernel, by decide +kernel, by decide +kernel⟩
theorem q_are_times_low : NmOk (defScope s_are_times) "low" .local := ⟨by decide +kernel, by decide +kernel, by decide +kernel, by decide +kernel⟩
theorem q__law_hand__law_cell : NmOk (defScope s__law_hand) "_law_cell" .local := ⟨by decide +kernel, by decide +kernel, by decide +kernel, by decide +kernel⟩
theorem q__law_hand__law_folded : NmOk (defScope s__law_hand) "_law_folded" .local := ⟨by decide +kernel, by decide +kernel, by decide +kernel, by decide +kernel⟩
theorem q__law_hand__law_k : NmOk (defScope s__law_hand) "_law_k" .local := ⟨by decide +kernel, by decide +kernel, by decide +kernel, by decide +kernel⟩
theorem q__law_hand__law_one : NmOk (defScope s__law_hand) "_law_one" .local := ⟨by decide +kernel, by decide +kernel, by decide +kernel, by decide +kernel⟩
theorem q__law_hand__law_script : NmOk (defScope s__law_hand) "_law_script" .local := ⟨by decide +kernel, by decide +kernel, by decide +kernel, by decide +kernel⟩
theorem q__law_hand_abs : NmOk (defScope s__law_hand) "abs" .globalImplicit := ⟨by decide +kernel, by decide +kernel, by decide +kernel, by decide +kernel⟩
theorem q__law_hand_int : NmOk (defScope s__law_hand) "int" .globalImplicit := ⟨by decide +kernel, by decide +kernel, by decide +kernel, by decide +kernel⟩
theorem q__law_hand_len : NmOk (defScope s__law_hand) "len" .globalImplicit := ⟨by decide +kernel, by decide +kernel, by decide +kernel, by decide +kernel⟩
theorem q__law_take__law_c : NmOk (defScope s__law_take) "_law_c" .local := ⟨by decide +kernel, by decide +kernel, by decide +kernel, by decide +kernel⟩
theorem q__law_take__law_digit : NmOk (defScope s__law_take) "_law_digit" .local := ⟨by decide +kernel, by decide +kernel, by decide +kernel, by decide +kernel⟩
theorem q__law_take__law_hand_here : NmOk (defScope s__law_take) "_law_hand_here" .local := ⟨by decide +kernel, by decide +kernel, by decide +kernel, by decide +kernel⟩
theorem q__law_take__law_m : NmOk (defScope s__law_take) "_law_m" .local := ⟨by decide +kernel, by decide +kernel, by decide +kernel, by decide +kernel⟩
theorem q__law_take__law_many : NmOk (defScope s__law_take) "_law_many" .local := ⟨by decide +kernel, by decide +kernel, by decide +kernel, by decide +kernel⟩
theorem q__law_kinds__law_first : NmOk (defScope s__law_kinds) "_law_first" .local := ⟨by decide +kernel, by decide +kernel, by decide +kernel, by decide +kernel⟩
theorem q__law_kinds__law_hand_here : NmOk (defScope s__law_kinds) "_law_hand_here" .local := ⟨by decide +kernel, by decide +kernel, by decide +kernel, by decide +kernel⟩
theorem q__law_kinds__law_many : NmOk (defScope s__law_kinds) "_law_many" .local := ⟨by decide +kernel, by decide +kernel, by decide +kernel, by decide +kernel⟩
theorem q__law_kinds__law_some : NmOk (defScope s__law_kinds) "_law_some" .local := ⟨by decide +kernel, by decide +kernel, by decide +kernel, by decide +kernel⟩
theorem q__law_kinds__law_take : NmOk (defScope s__law_kinds) "_law_take" .globalImplicit := ⟨by decide +kernel, by decide +kernel, by decide +kernel, by decide +kernel⟩
theorem q__law_leaf__law_hand_here : NmOk (defScope s__law_leaf) "_law_hand_here" .local := ⟨by decide +kernel, by decide +kernel, by decide +kernel, by decide +kernel⟩
theorem q__law_leaf__law_how : NmOk (defScope s__law_leaf) "_law_how" .local := ⟨by decide +kernel, by decide +kernel, by decide +kernel, by decide +kernel⟩
theorem q__law_leaf__law_kind : NmOk (defScope s__law_leaf) "_law_kind" .local := ⟨by decide +kernel, by decide +kernel, by decide +kernel, by decide +kernel⟩
theorem q__law_leaf__law_kinds_here : NmOk (defScope s__law_leaf) "_law_kinds_here" .local := ⟨by decide +kernel, by decide +kernel, by decide +kernel, by decide +kernel⟩
theorem q__law_leaf__law_take : NmOk (defScope s__law_leaf) "_law_take" .globalImplicit := ⟨by decide +kernel, by decide +kernel, by decide +kernel, by decide +kernel⟩
theorem q__law_leaf_len : NmOk (defScope s__law_leaf) "len" .globalImplicit := ⟨by decide +kernel, by decide +kernel, by decide +kernel, by decide +kernel⟩
theorem q__law_way__law_hand_here : NmOk (defScope s__law_way) "_law_hand_here" .local := ⟨by decide +kernel, by decide +kernel, by decide +kernel, by decide +kernel⟩
theorem q__law_way__law_high : NmOk (defScope s__law_way) "_law_high" .local := ⟨by decide +kernel, by decide +kernel, by decide +kernel, by decide +kernel⟩
theorem q__law_way__law_how : NmOk (defScope s__law_way) "_law_how" .local := ⟨by decide +kernel, by decide +kernel, by decide +kernel, by decide +kernel⟩
theorem q__law_way__law_kinds_here : NmOk (defScope s__law_way) "_law_kinds_here" .local := ⟨by decide +kernel, by decide +kernel, by decide +kernel, by decide +kernel⟩
theorem q__law_way__law_leaf : NmOk (defScope s__law_way) "_law_leaf" .globalImplicit := ⟨by decide +kernel, by decide +kernel, by decide +kernel, by decide +kernel⟩
theorem q__law_way__law_left : NmOk (defScope s__law_way) "_law_left" .local := ⟨by decide +kernel, by decide +kernel, by decide +kernel, by decide +kernel⟩
theorem q__law_way__law_low : NmOk (defScope s__law_way) "_law_low" .local := ⟨by decide +kernel, by decide +kernel, by decide +kernel, by decide +kernel⟩
theorem q__law_way__law_nest : NmOk (defScope s__law_way) "_law_nest" .local := ⟨by decide +kernel, by decide +kernel, by decide +kernel, by decide +kernel⟩
theorem q__law_way__law_one : NmOk (defScope s__law_way) "_law_one" .local := ⟨by decide +kernel, by decide +kernel, by decide +kernel, by decide +kernel⟩
theorem q__law_way__law_room : NmOk (defScope s__law_way) "_law_room" .local := ⟨by decide +kernel, by decide +kernel, by decide +kernel, by decide +kernel⟩
theorem q__law_way__law_take : NmOk (defScope s__law_way) "_law_take" .globalImplicit := ⟨by decide +kernel, by decide +kernel, by decide +kernel, by decide +kernel⟩
theorem q__law_way__law_way : NmOk (defScope s__law_way) "_law_way" .globalImplicit := ⟨by decide +kernel, by decide +kernel, by decide +kernel, by decide +kernel⟩
theorem q__law_is_name__law_letters : NmOk (defScope s__law_is_name) "_law_letters" .cell := ⟨by decide +kernel, by decide +kernel, by decide +kernel, by decide +kernel⟩
theorem q__law_is_name__law_thing : NmOk (defScope s__law_is_name) "_law_thing" .local := ⟨by decide +kernel, by decide +kernel, by decide +kernel, by decide +kernel⟩
theorem q__law_is_name_all : NmOk (defScope s__law_is_name) "all" .globalImplicit := ⟨by decide +kernel, by decide +kernel, by decide +kernel, by decide +kernel⟩
theorem q__law_is_name_isinstance : NmOk (defScope s__law_is_name) "isinstance" .globalImplicit := ⟨by decide +kernel, by decide +kernel, by decide +kernel, by decide +kernel⟩
theorem q__law_is_name_len : NmOk (defScope s__law_is_name) "len" .globalImplicit := ⟨by decide +kernel, by decide +kernel, by decide +kernel, by decide +kernel⟩
theorem q__law_is_name_str : NmOk (defScope s__law_is_name) "str" .globalImplicit := ⟨by decide +kernel, by decide +kernel, by decide +kernel, by decide +kernel⟩
theorem q__law_is_times__law_thing : NmOk (defScope s__law_is_times) "_law_thing" .local := ⟨by decide +kernel, by decide +kernel, by decide +kernel, by decide +kernel⟩
theorem q__law_is_times_bool : NmOk (defScope s__law_is_times) "bool" .globalImplicit := ⟨by decide +kernel, by decide +kernel, by decide +kernel, by decide +kernel⟩
theorem q__law_is_times_int : NmOk (defScope s__law_is_times) "int" .globalImplicit := ⟨by decide +kernel, by decide +kernel, by decide +kernel, by decide +kernel⟩
theorem q__law_is_times_isinstance : NmOk (defScope s__law_is_times) "isinstance" .globalImplicit := ⟨by decide +kernel, by decide +kernel, by decide +kernel, by decide +kernel⟩
theorem q__law_due__law_due : NmOk (defScope s__law_due) "_law_due" .globalImplicit := ⟨by decide +kernel, by decide +kernel, by decide +kernel, by decide +kernel⟩
theorem q__law_due__law_fine : NmOk (defScope s__law_due) "_law_fine" .local := ⟨by decide +kernel, by decide +kernel, by decide +kernel, by decide +kernel⟩
theorem q__law_due__law_is_name : NmOk (defScope s__law_due) "_law_is_name" .globalImplicit := ⟨by decide +kernel, by decide +kernel, by decide +kernel, by decide +kernel⟩
theorem q__law_due__law_is_times : NmOk (defScope s__law_due) "_law_is_times" .globalImplicit := ⟨by decide +kernel, by decide +kernel, by decide +kernel, by decide +kernel⟩
theorem q__law_due__law_size : NmOk (defScope s__law_due) "_law_size" .local := ⟨by decide +kernel, by decide +kernel, by decide +kernel, by decide +kernel⟩
theorem q__law_due__law_thing : NmOk (defScope s__law_due) "_law_thing" .local := ⟨by decide +kernel, by decide +kernel, by decide +kernel, by decide +kernel⟩
theorem q__law_due_all : NmOk (defScope s__law_due) "all" .globalImplicit := ⟨by decide +kernel, by decide +kernel, by decide +kernel, by decide +kernel⟩
theorem q__law_due_isinstance : NmOk (defScope s__law_due) "isinstance" .globalImplicit := ⟨by decide +kernel, by decide +kernel, by decide +kernel, by decide +kernel⟩
theorem q__law_due_len : NmOk (defScope s__law_due) "len" .globalImplicit := ⟨by decide +kernel, by decide +kernel, by decide +kernel, by decide +kernel⟩
theorem q__law_due_str : NmOk (defScope s__law_due) "str" .globalImplicit := ⟨by decide +kernel, by decide +kernel, by decide +kernel, by decide +kernel⟩
theorem q__law_due_tuple : NmOk (defScope s__law_due) "tuple" .globalImplicit := ⟨by decide +kernel, by decide +kernel, by decide +kernel, by decide +kernel⟩
theorem q__law_odd__law_hand_here : NmOk (defScope s__law_odd) "_law_hand_here" .local := ⟨by decide +kernel, by decide +kernel, by decide +kernel, by decide +kernel⟩
theorem q__law_odd__law_some : NmOk (defScope s__law_odd) "_law_some" .local := ⟨by decide +kernel, by decide +kernel, by decide +kernel, by decide +kernel⟩
theorem q__law_odd__law_take : NmOk (defScope s__law_odd) "_law_take" .globalImplicit := ⟨by decide +kernel, by decide +kernel, by decide +kernel, by decide +kernel⟩
theorem q__law_spoilt__law_at : NmOk (defScope s__law_spoilt) "_law_at" .local := ⟨by decide +kernel, by decide +kernel, by decide +kernel, by decide +kernel⟩
theorem q__law_spoilt__law_hand_here : NmOk (defScope s__law_spoilt) "_law_hand_here" .local := ⟨by decide +kernel, by decide +kernel, by decide +kernel, by decide +kernel⟩
theorem q__law_spoilt__law_how : NmOk (defScope s__law_spoilt) "_law_how" .local := ⟨by decide +kernel, by decide +kernel, by decide +kernel, by decide +kernel⟩
theorem q__law_spoilt__law_odd : NmOk (defScope s__law_spoilt) "_law_odd" .globalImplicit := ⟨by decide +kernel, by decide +kernel, by decide +kernel, by decide +kernel⟩
theorem q__law_spoilt__law_part : NmOk (defScope s__law_spoilt) "_law_part" .local := ⟨by decide +kernel, by decide +kernel, by decide +kernel, by decide +kernel⟩
theorem q__law_spoilt__law_spoilt : NmOk (defScope s__law_spoilt) "_law_spoilt" .globalImplicit := ⟨by decide +kernel, by decide +kernel, by decide +kernel, by decide +kernel⟩
theorem q__law_spoilt__law_take : NmOk (defScope s__law_spoilt) "_law_take" .globalImplicit := ⟨by decide +kernel, by decide +kernel, by decide +kernel, by decide +kernel⟩
theorem q__law_spoilt__law_thing : NmOk (defScope s__law_spoilt) "_law_thing" .local := ⟨by decide +kernel, by decide +kernel, by decide +kernel, by decide +kernel⟩
theorem q__law_spoilt_isinstance : NmOk (defScope s__law_spoilt) "isinstance" .globalImplicit := ⟨by decide +kernel, by decide +kernel, by decide +kernel, by decide +kernel⟩
theorem q__law_spoilt_len : NmOk (defScope s__law_spoilt) "len" .globalImplicit := ⟨by decide +kernel, by decide +kernel, by decide +kernel, by decide +kernel⟩
theorem q__law_spoilt_list : NmOk (defScope s__law_spoilt) "list" .globalImplicit := ⟨by decide +kernel, by decide +kernel, by decide +kernel, by decide +kernel⟩
theorem q__law_spoilt_tuple : NmOk (defScope s__law_spoilt) "tuple" .globalImplicit := ⟨by decide +kernel, by decide +kernel, by decide +kernel, by decide +kernel⟩
theorem q__law_right__law_due : NmOk (defScope s__law_right) "_law_due" .globalImplicit := ⟨by decide +kernel, by decide +kernel, by decide +kernel, by decide +kernel⟩
theorem q__law_right__law_found : NmOk (defScope s__law_right) "_law_found" .local := ⟨by decide +kernel, by decide +kernel, by decide +kernel, by decide +kernel⟩
theorem q__law_right__law_thing : NmOk (defScope s__law_right) "_law_thing" .local := ⟨by decide +kernel, by decide +kernel, by decide +kernel, by decide +kernel⟩
theorem q__law_right_bool : NmOk (defScope s__law_right) "bool" .globalImplicit := ⟨by decide +kernel, by decide +kernel, by decide +kernel, by decide +kernel⟩
theorem q__law_right_is_way : NmOk (defScope s__law_right) "is_way" .globalImplicit := ⟨by decide +kernel, by decide +kernel, by decide +kernel, by decide +kernel⟩
theorem q__law_right_isinstance : NmOk (defScope s__law_right) "isinstance" .globalImplicit := ⟨by decide +kernel, by decide +kernel, by decide +kernel, by decide +kernel⟩
theorem q_law__law_deep : NmOk (defScope s_law) "_law_deep" .local := ⟨by decide +kernel, by decide +kernel, by decide +kernel, by decide +kernel⟩
theorem q_law__law_hand : NmOk (defScope s_law) "_law_hand" .globalImplicit := ⟨by decide +kernel, by decide +kernel, by decide +kernel, by decide +kernel⟩
theorem q_law__law_hand_here : NmOk (defScope s_law) "_law_hand_here" .local := ⟨by decide +kernel, by decide +kernel, by decide +kernel, by decide +kernel⟩
theorem q_law__law_k : NmOk (defScope s_law) "_law_k" .local := ⟨by decide +kernel, by decide +kernel, by decide +kernel, by decide +kernel⟩
theorem q_law__law_kinds : NmOk (defScope s_law) "_law_kinds" .globalImplicit := ⟨by decide +kernel, by decide +kernel, by decide +kernel, by decide +kernel⟩
theorem q_law__law_odd : NmOk (defScope s_law) "_law_odd" .globalImplicit := ⟨by decide +kernel, by decide +kernel, by decide +kernel, by decide +kernel⟩
theorem q_law__law_right : NmOk (defScope s_law) "_law_right" .globalImplicit := ⟨by decide +kernel, by decide +kernel, by decide +kernel, by decide +kernel⟩
theorem q_law__law_script : NmOk (defScope s_law) "_law_script" .local := ⟨by decide +kernel, by decide +kernel, by decide +kernel, by decide +kernel⟩
theorem q_law__law_spoilt : NmOk (defScope s_law) "_law_spoilt" .globalImplicit := ⟨by decide +kernel, by decide +kernel, by decide +kernel, by decide +kernel⟩
theorem q_law__law_turn : NmOk (defScope s_law) "_law_turn" .local := ⟨by decide +kernel, by decide +kernel, by decide +kernel, by decide +kernel⟩
theorem q_law__law_way : NmOk (defScope s_law) "_law_way" .globalImplicit := ⟨by decide +kernel, by decide +kernel, by decide +kernel, by decide +kernel⟩
theorem q_law__law_way_here : NmOk (defScope s_law) "_law_way_here" .local := ⟨by decide +kernel, by decide +kernel, by decide +kernel, by decide +kernel⟩
theorem q_law_is_way : NmOk (defScope s_law) "is_way" .globalImplicit := ⟨by decide +kernel, by decide +kernel, by decide +kernel, by decide +kernel⟩
theorem q_law_len : NmOk (defScope s_law) "len" .globalImplicit := ⟨by decide +kernel, by decide +kernel, by decide +kernel, by decide +kernel⟩
theorem q_law_list : NmOk (defScope s_law) "list" .globalImplicit := ⟨by decide +kernel, by decide +kernel, by decide +kernel, by decide +kernel⟩
theorem q_law_min : NmOk (defScope s_law) "min" .globalImplicit := ⟨by decide +kernel, by decide +kernel, by decide +kernel, by decide +kernel⟩
theorem q_law_range : NmOk (defScope s_law) "range" .globalImplicit := ⟨by decide +kernel, by decide +kernel, by decide +kernel, by decide +kernel⟩
structure Adr where
  f_is_name : Addr
  d_is_name : FuncData
  f_is_number : Addr
  d_is_number : FuncData
  f_is_way : Addr
  d_is_way : FuncData
  f_are_times : Addr
  d_are_times : FuncData
  f__law_hand : Addr
  d__law_hand : FuncData
  f__law_take : Addr
  d__law_take : FuncData
  f__law_kinds : Addr
  d__law_kinds : FuncData
  f__law_leaf : Addr
  d__law_leaf : FuncData
  f__law_way : Addr
  d__law_way : FuncData
  f__law_is_name : Addr
  d__law_is_name : FuncData
  f__law_is_times : Addr
  d__law_is_times : FuncData
  f__law_due : Addr
  d__law_due : FuncData
  f__law_odd : Addr
  d__law_odd : FuncData
  f__law_spoilt : Addr
  d__law_spoilt : FuncData
  f__law_right : Addr
  d__law_right : FuncData
  f_law : Addr
  d_law : FuncData
  u_LONGEST_NAME : Value
  u_MOST_TIMES : Value
structure Txt (K : PySem.W.Frag) (mg : Str → Option Value) (t : Adr) : Prop where
  F_is_name : Fun K "is_name" "is_name" s_is_name t.f_is_name t.d_is_name
  b_is_name : Binds K t.d_is_name ["thing"] []
  m_is_name : mg "is_name" = some (.ref t.f_is_name)
  F_is_number : Fun K "is_number" "is_number" s_is_number t.f_is_number t.d_is_number
  b_is_number : Binds K t.d_is_number ["thing"] []
  m_is_number : mg "is_number" = some (.ref t.f_is_number)
  F_is_way : Fun K "is_way" "is_way" s_is_way t.f_is_way t.d_is_way
  b_is_way : Binds K t.d_is_way ["thing"] []
  m_is_way : mg "is_way" = some (.ref t.f_is_way)
  F_are_times : Fun K "are_times" "are_times" s_are_times t.f_are_times t.d_are_times
  b_are_times : Binds K t.d_are_times ["low", "high"] []
  m_are_times : mg "are_times" = some (.ref t.f_are_times)
  F__law_hand : Fun K "_law_hand" "_law_hand" s__law_hand t.f__law_hand t.d__law_hand
  b__law_hand : Binds K t.d__law_hand ["_law_script", "_law_k"] []
  m__law_hand : mg "_law_hand" = some (.ref t.f__law_hand)
  F__law_take : Fun K "_law_take" "_law_take" s__law_take t.f__law_take t.d__law_take
  b__law_take : Binds K t.d__law_take ["_law_hand_here", "_law_many"] []
  m__law_take : mg "_law_take" = some (.ref t.f__law_take)
  F__law_kinds : Fun K "_law_kinds" "_law_kinds" s__law_kinds t.f__law_kinds t.d__law_kinds
  b__law_kinds : Binds K t.d__law_kinds ["_law_hand_here"] []
  m__law_kinds : mg "_law_kinds" = some (.ref t.f__law_kinds)
  F__law_leaf : Fun K "_law_leaf" "_law_leaf" s__law_leaf t.f__law_leaf t.d__law_leaf
  b__law_leaf : Binds K t.d__law_leaf ["_law_hand_here", "_law_kinds_here"] []
  m__law_leaf : mg "_law_leaf" = some (.ref t.f__law_leaf)
  F__law_way : Fun K "_law_way" "_law_way" s__law_way t.f__law_way t.d__law_way
  b__law_way : Binds K t.d__law_way ["_law_hand_here", "_law_kinds_here", "_law_room", "_law_nest"] []
  m__law_way : mg "_law_way" = some (.ref t.f__law_way)
  F__law_is_name : Fun K "_law_is_name" "_law_is_name" s__law_is_name t.f__law_is_name t.d__law_is_name
  b__law_is_name : Binds K t.d__law_is_name ["_law_thing"] []
  m__law_is_name : mg "_law_is_name" = some (.ref t.f__law_is_name)
  F__law_is_times : Fun K "_law_is_times" "_law_is_times" s__law_is_times t.f__law_is_times t.d__law_is_times
  b__law_is_times : Binds K t.d__law_is_times ["_law_thing"] []
  m__law_is_times : mg "_law_is_times" = some (.ref t.f__law_is_times)
  F__law_due : Fun K "_law_due" "_law_due" s__law_due t.f__law_due t.d__law_due
  b__law_due : Binds K t.d__law_due ["_law_thing"] []
  m__law_due : mg "_law_due" = some (.ref t.f__law_due)
  F__law_odd : Fun K "_law_odd" "_law_odd" s__law_odd t.f__law_odd t.d__law_odd
  b__law_odd : Binds K t.d__law_odd ["_law_hand_here"] []
  m__law_odd : mg "_law_odd" = some (.ref t.f__law_odd)
  F__law_spoilt : Fun K "_law_spoilt" "_law_spoilt" s__law_spoilt t.f__law_spoilt t.d__law_spoilt
  b__law_spoilt : Binds K t.d__law_spoilt ["_law_hand_here", "_law_thing"] []
  m__law_spoilt : mg "_law_spoilt" = some (.ref t.f__law_spoilt)
  F__law_right : Fun K "_law_right" "_law_right" s__law_right t.f__law_right t.d__law_right
  b__law_right : Binds K t.d__law_right ["_law_thing"] []
  m__law_right : mg "_law_right" = some (.ref t.f__law_right)
  F_law : Fun K "law" "law" s_law t.f_law t.d_law
  b_law : Binds K t.d_law ["_law_script"] []
  m_law : mg "law" = some (.ref t.f_law)
  z_abs : mg "abs" = none
  z_all : mg "all" = none
  z_bool : mg "bool" = none
  z_int : mg "int" = none
  z_isinstance : mg "isinstance" = none
  z_len : mg "len" = none
  z_list : mg "list" = none
  z_min : mg "min" = none
  z_range : mg "range" = none
  z_str : mg "str" = none
  z_tuple : mg "tuple" = none
  c_LONGEST_NAME : mg "LONGEST_NAME" = some t.u_LONGEST_NAME
  r_LONGEST_NAME : RelV (.int 8) t.u_LONGEST_NAME
  c_MOST_TIMES : mg "MOST_TIMES" = some t.u_MOST_TIMES
  r_MOST_TIMES : RelV (.int 6) t.u_MOST_TIMES
section
variable {P : Program} {w : World} {K : PySem.W.Frag} {mg : Str → Option Value} {base : Heap} {t : Adr}
def ForW (g : TG) (tb : TS) (D : Ends) (σ : St) (J : It) (H1 : Hp) : Prop := ∃ W : Nat → Nat → St → Hp → Prop, (∃ m, W 0 m σ H1) ∧ ∀ i m σ H, W i m σ H →
  (J.stop i H ∧ D.nx σ H) ∨ (J.go i H ∧ ∃ N : St → Hp → Prop, (∀ σ' H', N σ' H' → ∃ m', m' < m ∧ W (i + 1) m' σ' H') ∧ ∀ x H', J.yld i H x H' → g x σ H' fun σ2 H2 => tb { D with nx := N, ct := N, bk := D.nx } σ2 H2)
theorem v_for {wi : TI} {g : TG} {tb : TS} {D : Ends} {σ : St} {H : Hp} (h : wi σ H fun J H1 => ForW g tb D σ J H1) : tFor wi g tb D σ H := h
theorem v_ifSh {c : Prop} [Decidable c] {t u : TS} {D : Ends} {σ : St} {H : Hp} (S : St → Prop) (hn : ∀ σ', S σ' → D.nx σ' H) (h1 : c → (∀ σ', S σ' → D.nx σ' H) → t D σ H) (h2 : ¬ c → (∀ σ', S σ' → D.nx σ' H) → u D σ H) :
    if decide c = true then t D σ H else u D σ H := v_iteD (fun h => h1 h hn) (fun h => h2 h hn)
theorem ok_take (T : Txt K mg t) : FnOk P w K mg base CX0 1 t.f__law_take t.d__law_take ["_law_hand_here", "_law_many"] spTake := by
  refine T.F__law_take.ok sc__law_take (fun vs H Q E h => ?_) (fun cdv A outer s H vs Q E hr h => ?_)
  · obtain ⟨p, many, c, rfl, _⟩ := h
    rfl
  obtain ⟨p, many, c, rfl, ⟨a, b, n, hp, ha, hb, hb2, hn, hnc⟩, hm, hm2, hc2, k⟩ := h
  refine' ⟨_, ?der, ?_⟩
  case der =>
   conv => arg 2; whnf
   with_reducible refine' pss_cons ?d1 ?d2
   case d1 =>
    with_reducible refine' ps_if ?d3 ?d4 ?d5
    case d3 =>
     with_reducible refine' pt_cmpR ?d6 ?d7 ?d8 ?d9
     case d6 => exact op_gtA
     case d7 =>
      with_reducible refine' pe_ix ?d10 ?d11 ?d12 ?d13
      case d10 => exact ix_any
      case d11 => exact (pvk 0 q__law_take__law_hand_here (by rfl) (by rfl))
      case d12 => exact pe_int
      case d13 => exact (fun _ _ => rfl)
     case d8 => exact pe_int
     case d9 => exact (nomark _)
    case d4 =>
     with_reducible refine' pss_cons ?d14 ?d15
     case d14 =>
      with_reducible refine' ps_setk (i := 2) ?d16 ?d17 ?d18 ?d19 ?d20 ?d21
      case d16 => exact sc__law_take.nd
      case d17 => exact rfl
      case d18 => exact (Or.inl q__law_take__law_digit.lk)
      case d19 =>
       with_reducible refine' pe_op ?d22 ?d23 ?d24
       case d22 => exact op_mod
       case d23 =>
        with_reducible refine' pe_ix ?d25 ?d26 ?d27 ?d28
        case d25 => exact ix_any
        case d26 => exact (pvk 0 q__law_take__law_hand_here (by rfl) (by rfl))
        case d27 => exact pe_int
        case d28 => exact (fun _ _ => rfl)
       case d24 => exact (pvk 1 q__law_take__law_many (by rfl) (by rfl))
      case d20 => rfl
      case d21 => rfl
     case d15 =>
      with_reducible refine' pss_cons ?d29 ?d30
      case d29 =>
       with_reducible refine' ps_asg ?d31 ?d32 ?d33 ?d34 ?d35
       case d31 =>
        with_reducible refine' pe_op ?d36 ?d37 ?d38
        case d36 => exact op_fdiv
        case d37 =>
         with_reducible refine' pe_ix ?d39 ?d40 ?d41 ?d42
         case d39 => exact ix_any
         case d40 => exact (pvk 0 q__law_take__law_hand_here (by rfl) (by rfl))
         case d41 => exact pe_int
         case d42 => exact (fun _ _ => rfl)
        case d38 => exact (pvk 1 q__law_take__law_many (by rfl) (by rfl))
       case d32 =>
        with_reducible refine' pg_sub ?d43 ?d44 ?d45 ?d46
        case d43 => exact (pvk 0 q__law_take__law_hand_here (by rfl) (by rfl))
        case d44 => exact pe_int
        case d45 => exact set_list
        case d46 => (intro _; rfl)
       case d33 => rfl
       case d34 => rfl
       case d35 => rfl
      case d30 =>
       with_reducible refine' pss_one ?d47
       case d47 =>
        with_reducible refine' ps_ret ?d48
        case d48 => exact (pvk 2 q__law_take__law_digit (by rfl) (by rfl))
    case d5 => exact pss_nil
   case d2 =>
    with_reducible refine' pss_cons ?d49 ?d50
    case d49 =>
     with_reducible refine' ps_asg ?d51 ?d52 ?d53 ?d54 ?d55
     case d51 =>
      with_reducible refine' pe_op ?d56 ?d57 ?d58
      case d56 => exact op_addA
      case d57 =>
       with_reducible refine' pe_ix ?d59 ?d60 ?d61 ?d62
       case d59 => exact ix_any
       case d60 => exact (pvk 0 q__law_take__law_hand_here (by rfl) (by rfl))
       case d61 => exact pe_int
       case d62 => exact (fun _ _ => rfl)
      case d58 => exact pe_int
     case d52 =>
      with_reducible refine' pg_sub ?d63 ?d64 ?d65 ?d66
      case d63 => exact (pvk 0 q__law_take__law_hand_here (by rfl) (by rfl))
      case d64 => exact pe_int
      case d65 => exact set_list
      case d66 => (intro _; rfl)
     case d53 => rfl
     case d54 => rfl
     case d55 => rfl
    case d50 =>
     with_reducible refine' pss_cons ?d67 ?d68
     case d67 =>
      with_reducible refine' ps_setk (i := 3) ?d69 ?d70 ?d71 ?d72 ?d73 ?d74
      case d69 => exact sc__law_take.nd
      case d70 => exact rfl
      case d71 => exact (Or.inl q__law_take__law_c.lk)
      case d72 =>
       with_reducible refine' pe_ix ?d75 ?d76 ?d77 ?d78
       case d75 => exact ix_any
       case d76 => exact (pvk 0 q__law_take__law_hand_here (by rfl) (by rfl))
       case d77 => exact pe_int
       case d78 => exact (fun _ _ => rfl)
      case d73 => rfl
      case d74 => rfl
     case d68 =>
      with_reducible refine' pss_cons ?d79 ?d80
      case d79 =>
       with_reducible refine' ps_setk (i := 4) ?d81 ?d82 ?d83 ?d84 ?d85 ?d86
       case d81 => exact sc__law_take.nd
       case d82 => exact rfl
       case d83 => exact (Or.inl q__law_take__law_m.lk)
       case d84 =>
        with_reducible refine' pe_op ?d87 ?d88 ?d89
        case d87 => exact op_mod
        case d88 =>
         with_reducible refine' pe_op ?d90 ?d91 ?d92
         case d90 => exact op_mulA
         case d91 =>
          with_reducible refine' pe_ix ?d93 ?d94 ?d95 ?d96
          case d93 => exact ix_any
          case d94 => exact (pvk 0 q__law_take__law_hand_here (by rfl) (by rfl))
          case d95 => exact pe_int
          case d96 => exact (fun _ _ => rfl)
         case d92 =>
          with_reducible refine' pe_op ?d97 ?d98 ?d99
          case d97 => exact op_addA
          case d98 =>
           with_reducible refine' pe_op ?d100 ?d101 ?d102
           case d100 => exact op_addA
           case d101 => exact pe_int
           case d102 =>
            with_reducible refine' pe_op ?d103 ?d104 ?d105
            case d103 => exact op_mulA
            case d104 =>
             with_reducible refine' pe_op ?d106 ?d107 ?d108
             case d106 => exact op_mulA
             case d107 => exact pe_int
             case d108 => exact (pvk 3 q__law_take__law_c (by rfl) (by rfl))
            case d105 => exact (pvk 3 q__law_take__law_c (by rfl) (by rfl))
          case d99 =>
           with_reducible refine' pe_op ?d109 ?d110 ?d111
           case d109 => exact op_mulA
           case d110 => exact pe_int
           case d111 => exact (pvk 3 q__law_take__law_c (by rfl) (by rfl))
        case d89 => exact pe_int
       case d85 => rfl
       case d86 => rfl
      case d80 =>
       with_reducible refine' pss_cons ?d112 ?d113
       case d112 =>
        with_reducible refine' ps_setk (i := 4) ?d114 ?d115 ?d116 ?d117 ?d118 ?d119
        case d114 => exact sc__law_take.nd
        case d115 => exact rfl
        case d116 => exact (Or.inl q__law_take__law_m.lk)
        case d117 =>
         with_reducible refine' pe_op ?d120 ?d121 ?d122
         case d120 => exact op_mod
         case d121 =>
          with_reducible refine' pe_op ?d123 ?d124 ?d125
          case d123 => exact op_mulA
          case d124 => exact (pvk 4 q__law_take__law_m (by rfl) (by rfl))
          case d125 =>
           with_reducible refine' pe_op ?d126 ?d127 ?d128
           case d126 => exact op_addA
           case d127 =>
            with_reducible refine' pe_op ?d129 ?d130 ?d131
            case d129 => exact op_addA
            case d130 =>
             with_reducible refine' pe_op ?d132 ?d133 ?d134
             case d132 => exact op_mod
             case d133 => exact (pvk 4 q__law_take__law_m (by rfl) (by rfl))
             case d134 => exact pe_int
            case d131 =>
             with_reducible refine' pe_op ?d135 ?d136 ?d137
             case d135 => exact op_mulA
             case d136 => exact (pvk 3 q__law_take__law_c (by rfl) (by rfl))
             case d137 => exact pe_int
           case d128 => exact pe_int
         case d122 => exact pe_int
        case d118 => rfl
        case d119 => rfl
       case d113 =>
        with_reducible refine' pss_one ?d138
        case d138 =>
         with_reducible refine' ps_ret ?d139
         case d139 =>
          with_reducible refine' pe_op ?d140 ?d141 ?d142
          case d140 => exact op_mod
          case d141 =>
           with_reducible refine' pe_op ?d143 ?d144 ?d145
           case d143 => exact op_addA
           case d144 =>
            with_reducible refine' pe_op ?d146 ?d147 ?d148
            case d146 => exact op_fdiv
            case d147 => exact (pvk 4 q__law_take__law_m (by rfl) (by rfl))
            case d148 => exact pe_int
           case d145 =>
            with_reducible refine' pe_op ?d149 ?d150 ?d151
            case d149 => exact op_fdiv
            case d150 => exact (pvk 4 q__law_take__law_m (by rfl) (by rfl))
            case d151 => exact pe_int
          case d142 => exact (pvk 1 q__law_take__law_many (by rfl) (by rfl))
  have fin : ∀ {H2 : Hp} {a' n' : Int}, 0 ≤ a' → 0 ≤ n' → n' ≤ c + 1 → H2 p = some (.lst [.int a', .int b, .int n']) → KeepBut p H H2 → ∀ r : Int, 0 ≤ r → r < many → Q (.int r) H2 := fun {H2 a' n'} h1 h2 h3 h4 h5 r h6 h7 =>
    k r H2 h6 h7 ⟨a', b, n', h4, h1, hb, hb2, h2, h3⟩ h5
  walk_at "vs"
  refine v_iteD (fun ha0 => ?_) (fun ha0 => ?_)
  · walk_at "vs"
    refine fin (a' := a / many) (n' := n) (Int.ediv_nonneg ha (by omega)) hn (by omega) upd_same keepBut_upd _ (Int.emod_nonneg _ (by omega)) (Int.emod_lt_of_pos _ hm)
  · walk_at "vs"
    refine fin (a' := a) (n' := n + 1) ha (by omega) (by omega) upd_same keepBut_upd _ (Int.emod_nonneg _ (by omega)) (Int.emod_lt_of_pos _ hm)
def spHandK (K : PySem.W.Frag) : Sp := fun vs H Q _ => ∃ (a : Addr) (ns : List Int) (k : Int), vs = [.ref a, .int k] ∧ SqL K H a (ns.map V.int) ∧ ns.length ≤ 63 ∧ 0 ≤ k ∧ k ≤ 100 ∧ ∀ p H', Hd H' p 0 → Same H H' → H p = none → Q (.ref p) H'
theorem ok_hand (T : Txt K mg t) : FnOk P w K mg base CX0 1 t.f__law_hand t.d__law_hand ["_law_script", "_law_k"] (spHandK K) := by
  refine T.F__law_hand.ok sc__law_hand (fun vs H Q E h => ?_) (fun cdv A outer s H vs Q E hr h => ?_)
  · obtain ⟨a, ns, k, rfl, _⟩ := h
    rfl
  obtain ⟨a, ns, kk, rfl, hS, hl', hk0, hk1, k⟩ := h
  refine' ⟨_, ?der, ?_⟩
  case der =>
   conv => arg 2; whnf
   with_reducible refine' pss_cons ?d152 ?d153
   case d152 =>
    with_reducible refine' ps_setk (i := 2) ?d154 ?d155 ?d156 ?d157 ?d158 ?d159
    case d154 => exact sc__law_hand.nd
    case d155 => exact rfl
    case d156 => exact (Or.inl q__law_hand__law_cell.lk)
    case d157 => exact pe_int
    case d158 => rfl
    case d159 => rfl
   case d153 =>
    with_reducible refine' pss_cons ?d160 ?d161
    case d160 =>
     with_reducible refine' ps_if ?d162 ?d163 ?d164
     case d162 =>
      with_reducible refine' pt_cmpR ?d165 ?d166 ?d167 ?d168
      case d165 => exact op_ltA
      case d166 => exact (pvk 1 q__law_hand__law_k (by rfl) (by rfl))
      case d167 =>
       with_reducible refine' pe_callBk ?d169 ?d170 ?d171 ?d172 ?d173 ?d174 ?d175
       case d169 => exact call_len_seq
       case d170 => exact q__law_hand_len
       case d171 => exact T.z_len
       case d172 => exact PySem.boot_len
       case d173 =>
        with_reducible refine' pa_c ?d176 ?d177 ?d178
        case d176 => exact (pvk 0 q__law_hand__law_script (by rfl) (by rfl))
        case d177 => exact pa_nil
        case d178 => rfl
       case d174 => rfl
       case d175 => rfl
      case d168 => exact (nomark _)
     case d163 =>
      with_reducible refine' pss_one ?d179
      case d179 =>
       with_reducible refine' ps_setk (i := 2) ?d180 ?d181 ?d182 ?d183 ?d184 ?d185
       case d180 => exact sc__law_hand.nd
       case d181 => exact rfl
       case d182 => exact (Or.inl q__law_hand__law_cell.lk)
       case d183 =>
        with_reducible refine' pe_ix ?d186 ?d187 ?d188 ?d189
        case d186 => exact ix_list
        case d187 => exact (pvk 0 q__law_hand__law_script (by rfl) (by rfl))
        case d188 => exact (pvk 1 q__law_hand__law_k (by rfl) (by rfl))
        case d189 => exact (fun _ _ => rfl)
       case d184 => rfl
       case d185 => rfl
     case d164 => exact pss_nil
    case d161 =>
     with_reducible refine' pss_cons ?d190 ?d191
     case d190 =>
      with_reducible refine' ps_setk (i := 3) ?d192 ?d193 ?d194 ?d195 ?d196 ?d197
      case d192 => exact sc__law_hand.nd
      case d193 => exact rfl
      case d194 => exact (Or.inl q__law_hand__law_folded.lk)
      case d195 => exact pe_int
      case d196 => rfl
      case d197 => rfl
     case d191 =>
      with_reducible refine' pss_cons ?d198 ?d199
      case d198 =>
       with_reducible refine' ps_for ?d200 ?d201 ?d202 ?d203 ?d204 ?d205
       case d200 => exact PassesOwn.never
       case d201 => exact rfl
       case d202 =>
        with_reducible refine' pi_list ?d206
        case d206 =>
         with_reducible refine' pe_slice ?d207 ?d208 ?d209 ?d210
         case d207 => exact sl_list
         case d208 => exact (pvk 0 q__law_hand__law_script (by rfl) (by rfl))
         case d209 => exact po_none
         case d210 =>
          with_reducible refine' po_some ?d211
          case d211 => exact pe_int
       case d203 =>
        with_reducible refine' pg_name (i := 4) ?d212 ?d213 ?d214 ?d215
        case d212 => exact sc__law_hand.nd
        case d213 => exact rfl
        case d214 => exact (Or.inl q__law_hand__law_one.lk)
        case d215 => exact (Or.inl rfl)
       case d204 =>
        with_reducible refine' pss_one ?d216
        case d216 =>
         with_reducible refine' ps_setk (i := 3) ?d217 ?d218 ?d219 ?d220 ?d221 ?d222
         case d217 => exact sc__law_hand.nd
         case d218 => exact rfl
         case d219 => exact (Or.inl q__law_hand__law_folded.lk)
         case d220 =>
          with_reducible refine' pe_op ?d223 ?d224 ?d225
          case d223 => exact op_mod
          case d224 =>
           with_reducible refine' pe_op ?d226 ?d227 ?d228
           case d226 => exact op_addA
           case d227 =>
            with_reducible refine' pe_op ?d229 ?d230 ?d231
            case d229 => exact op_mulA
            case d230 => exact pe_int
            case d231 => exact (pvk 3 q__law_hand__law_folded (by rfl) (by rfl))
           case d228 => exact (pvk 4 q__law_hand__law_one (by rfl) (by rfl))
          case d225 => exact pe_int
         case d221 => rfl
         case d222 => rfl
       case d205 => (intro _; rfl)
      case d199 =>
       with_reducible refine' pss_one ?d232
       case d232 =>
        with_reducible refine' ps_ret ?d233
        case d233 =>
         with_reducible refine' pe_lst ?d234
         case d234 =>
          with_reducible refine' pa_c ?d235 ?d236 ?d237
          case d235 =>
           with_reducible refine' pe_op ?d238 ?d239 ?d240
           case d238 => exact op_mulA
           case d239 =>
            with_reducible refine' pe_callBk ?d241 ?d242 ?d243 ?d244 ?d245 ?d246 ?d247
            case d241 => exact call_abs
            case d242 => exact q__law_hand_abs
            case d243 => exact T.z_abs
            case d244 => exact PyProof.Rows.Boot.abs
            case d245 =>
             with_reducible refine' pa_c ?d248 ?d249 ?d250
             case d248 => exact (pvk 2 q__law_hand__law_cell (by rfl) (by rfl))
             case d249 => exact pa_nil
             case d250 => rfl
            case d246 => rfl
            case d247 => rfl
           case d240 =>
            with_reducible refine' pe_callTyk ?d251 ?d252 ?d253 ?d254 ?d255 ?d256 ?d257
            case d251 => exact call_int1
            case d252 => exact q__law_hand_int
            case d253 => exact T.z_int
            case d254 => rfl
            case d255 =>
             with_reducible refine' pa_c ?d258 ?d259 ?d260
             case d258 =>
              with_reducible refine' pe_cmpR ?d261 ?d262 ?d263 ?d264
              case d261 => exact op_geA
              case d262 =>
               with_reducible refine' pe_callBk ?d265 ?d266 ?d267 ?d268 ?d269 ?d270 ?d271
               case d265 => exact call_abs
               case d266 => exact q__law_hand_abs
               case d267 => exact T.z_abs
               case d268 => exact PyProof.Rows.Boot.abs
               case d269 =>
                with_reducible refine' pa_c ?d272 ?d273 ?d274
                case d272 => exact (pvk 2 q__law_hand__law_cell (by rfl) (by rfl))
                case d273 => exact pa_nil
                case d274 => rfl
               case d270 => rfl
               case d271 => rfl
              case d263 =>
               with_reducible refine' pe_op ?d275 ?d276 ?d277
               case d275 => exact op_pow
               case d276 => exact pe_int
               case d277 => exact pe_int
              case d264 => exact (nomark _)
             case d259 => exact pa_nil
             case d260 => rfl
            case d256 => rfl
            case d257 => rfl
          case d236 =>
           with_reducible refine' pa_c ?d278 ?d279 ?d280
           case d278 =>
            with_reducible refine' pe_op ?d281 ?d282 ?d283
            case d281 => exact op_addA
            case d282 =>
             with_reducible refine' pe_op ?d284 ?d285 ?d286
             case d284 => exact op_addA
             case d285 =>
              with_reducible refine' pe_op ?d287 ?d288 ?d289
              case d287 => exact op_mod
              case d288 =>
               with_reducible refine' pe_op ?d290 ?d291 ?d292
               case d290 => exact op_addA
               case d291 => exact (pvk 2 q__law_hand__law_cell (by rfl) (by rfl))
               case d292 => exact (pvk 3 q__law_hand__law_folded (by rfl) (by rfl))
              case d289 => exact pe_int
             case d286 =>
              with_reducible refine' pe_op ?d293 ?d294 ?d295
              case d293 => exact op_mulA
              case d294 => exact pe_int
              case d295 => exact (pvk 1 q__law_hand__law_k (by rfl) (by rfl))
            case d283 => exact pe_int
           case d279 =>
            with_reducible refine' pa_c ?d296 ?d297 ?d298
            case d296 => exact pe_int
            case d297 => exact pa_nil
            case d298 => rfl
           case d280 => rfl
          case d237 => rfl
  walk_at "vs"
  refine ⟨a, _, rfl, .inl hS, ?_⟩
  walk_at "vs"
  refine v_ifSh (fun σ' => ∃ cell : Int, σ' = [some (.ref a), some (.int kk), some (.int cell), none, none]) ?_ ?_ ?_
  · rintro σ' ⟨cell, rfl⟩
    walk_at "vs"
    refine v_for ?_
    walk_at "vs"
    refine v_slL hS fun l hl => ?_
    have ec : cutV (ns.map V.int) none (some 63) = ns.map V.int := cut_whole (k := 63) (by rw [List.length_map]; exact hl')
    rw [ec]
    refine v_iL' ⟨_, SqL.of upd_same⟩ ?_
    refine for_list (xs := ns.map V.int) (fun i σ H2 => ∃ (fo : Int) (v4 : Option V), σ = [some (.ref a), some (.int kk), some (.int cell), some (.int fo), v4] ∧ H2 = upd H l (.lst (ns.map V.int)) ∧ 0 ≤ fo ∧ fo < 2305843009213693951) ⟨0, none, rfl, rfl, by decide, by decide⟩ ?_ ?_ ?_
    · rintro i σ H2 _ ⟨fo, v4, rfl, rfl, _⟩
      exact SqL.of upd_same
    · rintro i x σ H2 hi ⟨fo, v4, rfl, rfl, h0, h1⟩
      rw [List.getElem?_map] at hi
      obtain ⟨one, ho, rfl⟩ := Option.map_eq_some_iff.mp hi
      walk_at "vs"
      exact ⟨_, _, rfl, rfl, Int.emod_nonneg _ (by decide), Int.emod_lt_of_pos _ (by decide)⟩
    · rintro σ H2 ⟨fo, v4, rfl, rfl, h0, h1⟩
      walk_at "vs"
      refine ⟨_, rfl, ?_⟩
      walk_at "vs"
      refine ⟨_, rfl, ?_⟩
      walk_at "vs"
      refine .inr ⟨_, rfl, ?_⟩
      walk_at "vs"
      have hb : ∀ b : Bool, -(2 ^ 64) < (if b = true then (1 : Int) else 0) ∧ (if b = true then (1 : Int) else 0) < 2 ^ 64 ∧ 0 ≤ (if b = true then (1 : Int) else 0) := by
        intro b
        cases b <;> decide
      refine ⟨small (by simp), fun p hp => ?_⟩
      have hp' : H p = none := (same_new hl _).free hp
      refine k p _ ⟨_, _, 0, upd_same, Int.mul_nonneg (by split <;> omega) (hb _).2.2, ?_, ?_, by decide, by decide⟩ ((same_new hl _).trans (same_new hp _)) hp'
      · omega
      · omega
  · intro hlt hN
    obtain ⟨cell, _, hce⟩ := at_ints (ns := ns) (i := kk) hk0 (by rw [List.length_map] at hlt; exact hlt)
    walk_at "vs"
    refine ⟨a, _, kk, _, rfl, rfl, hS, hce, ?_⟩
    walk_at "vs"
    exact hN _ ⟨cell, rfl⟩
  · intro _ hN
    walk_at "vs"
    exact hN _ ⟨0, rfl⟩

end
end K14

set_option Elab.async false
set_option linter.all false
set_option maxRecDepth 100000
set_option maxHeartbeats 8000000
namespace K14
open PySem L2
local macro_rules | `(tactic| walk_at "as") => `(tactic| with_reducible assumption)
local macro_rules | `(tactic| walk_at "hand") => `(tactic| first | walk_at "as" | (with_reducible refine' Hand.new ?hdx ?hdy; (case hdy => walk_at "as"); (case hdx => walk_at "hand")))
local macro_rules | `(tactic| walk_at "same") => `(tactic| first | with_reducible exact Same.refl _ | walk_at "as" | (with_reducible refine' Same.trans ?smx (same_new ?smy _); (case smy => walk_at "as"); (case smx => walk_at "same")))
local macro_rules | `(tactic| walk_at "ne") => `(tactic| first | walk_at "as" | (apply Ne.symm; walk_at "as"))
local macro_rules | `(tactic| walk_at "hg") => `(tactic| first | with_reducible exact upd_same | walk_at "as" | (with_reducible refine' upd_new ?hgx ?hgy; (case hgy => walk_at "as"); (case hgx => walk_at "hg")) | (with_reducible refine' Eq.trans (upd_ne ?hgn) ?hgx; (case hgn => walk_at "ne"); (case hgx => walk_at "hg")))
local macro_rules | `(tactic| walk_at "v") => `(tactic| (with_reducible first
  | refine iteT ?_ | refine iteF ?_ | refine v_iteNT ?_ | refine v_iteNF ?_ | refine v_abs ?_ | refine v_seq ?_ | refine v_asg ?_ | refine v_ifS ?_ | refine v_ret ?_ | refine v_retN ?_ | refine v_next ?_ | refine v_break ?_ | refine v_cont ?_ | refine v_drop ?_ | refine v_name ?_ | refine v_gsub ?_
  | refine v_C ?_ | refine v_op ?_ | refine v_un ?_ | refine v_neg ?_ | refine v_test ?_ | refine v_tB ?_ | refine v_bl ?_ | refine v_or ?_ | refine v_and ?_ | refine v_not ?_ | refine v_andV ?_ | refine v_orV ?_ | refine v_notV ?_ | refine v_if ?_ | refine v_chain ?_
  | refine v_call ?_ | refine v_CB ?_ | refine v_cons ?_ | refine v_nil ?_ | refine v_lst ?_ | refine v_tup ?_ | refine v_sl ?_ | refine v_noPart ?_ | refine v_part ?_ | refine v_int ?_ | refine v_bm ?_ | refine v_true ?_
  | refine v_rI0 ?_ | refine v_addI ?_ | refine v_ltI ?_ | refine v_leI ?_ | refine v_gtI ?_ | refine v_geI ?_ | refine v_ltS ?_ | refine v_leS ?_ | refine v_gtS ?_ | refine v_geS ?_
  | refine v_eqI ?_ | refine v_eqS ?_ | refine v_eqB ?_ | refine v_neI ?_ | refine v_neS ?_ | refine v_neB ?_ | refine v_isB ?_ | refine v_isN ?_ | refine v_comp ?_ | refine v_iR1 ?_ | refine v_iStr ?_ | refine v_iStr' ?_ | refine v_iL ?_
  | (refine' v_var ?hv ?_; (case hv => with_unfolding_all rfl))
  | (refine' v_ixL ?h1 ?h2 ?_; (case h1 => walk_at "hg"); (case h2 => with_unfolding_all rfl))
  | (refine' v_ixT ?h1 ?h2 ?_; (case h1 => walk_at "hg"); (case h2 => with_unfolding_all rfl))
  | (refine' v_setL ?h1 ?h2 ?_; (case h1 => walk_at "hg"); (case h2 => with_unfolding_all rfl))
  | (refine' v_lenL ?h1 ?_; (case h1 => walk_at "hg"))
  | (refine' v_lenT ?h1 ?_; (case h1 => walk_at "hg"))
  | (refine v_instT ?h1 ?h2 ?h3 ?_; (case h1 => (simp [tyName, instB, *]; done)); (case h2 => (simp [tyName, *]; done)); (case h3 => (simp; done)))
  | (refine v_instF ?h1 ?h2 ?h3 ?_; (case h1 => (simp [tyName, instB, *]; done)); (case h2 => (simp [tyName, *]; done)); (case h3 => (simp; done)))
  | (refine v_mulI ?h1 ?_; (case h1 => (unfold CMul; omega)))
  | (refine v_rI ?h1 ?_; (case h1 => first | omega | (unfold CDiv; omega) | (unfold CPow; omega)))))
local macro_rules | `(tactic| walk_at "v2") => `(tactic| (with_reducible first | refine v_isNotB ?_ | refine v_isNotN ?_ | refine v_disp ?_ | refine v_pcons ?_ | refine v_pnil ?_ | refine v_dget2 ?_ | refine v_iT ?_ | refine v_chain3 ?_ | refine v_inSign ?_))
local macro_rules | `(tactic| walk_at "w") => `(tactic| repeat (first | walk_at "v" | walk_at "v2"))
local macro_rules | `(tactic| walk_at "vs") => `(tactic| repeat (walk_at "v"))
section
variable {P : Program} {w : World} {K : PySem.W.Frag} {mg : Str → Option Value} {base : Heap} {t : Adr}
def isName : V → Bool
  | .str z => decide (1 ≤ z.length) && decide (z.length ≤ 8) && z.cps.toList.all fun c => decide (97 ≤ c) && decide (c ≤ 122)
  | _ => false
/-- a thing that may be asked of -/
def Thing (H : Hp) : V → Prop
  | .non => True
  | .bl _ => True
  | .int _ => True
  | .str z => z.length ≤ 100
  | .ref a => (∃ xs, H a = some (.lst xs)) ∨ ∃ xs, H a = some (.tup xs)
  | _ => False
theorem one_lt (a b : Nat) : ([a] < [b]) ↔ a < b := by simp [List.cons_lt_cons_iff]
theorem signA (c : Nat) : (!decide (({ cps := #[c] } : Str).cps.toList < (Str.ofString "a").cps.toList)) = decide (97 ≤ c) := by
  have e : (Str.ofString "a").cps.toList = [97] := by decide +kernel
  rw [e, show ({ cps := #[c] } : Str).cps.toList = [c] from rfl, decide_eq_decide.mpr (one_lt c 97), ← decide_not]
  exact decide_eq_decide.mpr (by omega)
theorem signZ (c : Nat) : (!decide ((Str.ofString "z").cps.toList < ({ cps := #[c] } : Str).cps.toList)) = decide (c ≤ 122) := by
  have e : (Str.ofString "z").cps.toList = [122] := by decide +kernel
  rw [e, show ({ cps := #[c] } : Str).cps.toList = [c] from rfl, decide_eq_decide.mpr (one_lt 122 c), ← decide_not]
  exact decide_eq_decide.mpr (by omega)
theorem signA' (c : Nat) : decide (({ cps := #[c] } : Str).cps.toList < (Str.ofString "a").cps.toList) = decide (c < 97) := by
  have e : (Str.ofString "a").cps.toList = [97] := by decide +kernel
  rw [e, show ({ cps := #[c] } : Str).cps.toList = [c] from rfl, decide_eq_decide.mpr (one_lt c 97)]
theorem signZ' (c : Nat) : decide ((Str.ofString "z").cps.toList < ({ cps := #[c] } : Str).cps.toList) = decide (122 < c) := by
  have e : (Str.ofString "z").cps.toList = [122] := by decide +kernel
  rw [e, show ({ cps := #[c] } : Str).cps.toList = [c] from rfl, decide_eq_decide.mpr (one_lt 122 c)]
def low (c : Nat) : Bool := decide (97 ≤ c) && decide (c ≤ 122)
theorem take_one {z : Str} {i : Nat} (hi : i < z.cps.size) : z.cps.toList.take (i + 1) = z.cps.toList.take i ++ [z.cps.getD i 0] := by
  rw [List.take_add_one]
  congr 1
  have : z.cps.toList[i]? = some (z.cps.getD i 0) := by simp [Array.getD_eq_getD_getElem?, hi]
  rw [this]
  rfl
theorem take_all (z : Str) : z.cps.toList.take z.cps.size = z.cps.toList := List.take_of_length_le (by simp)
theorem name_str (z : Str) : isName (.str z) = (decide (1 ≤ z.length) && decide (z.length ≤ 8) && z.cps.toList.all low) := rfl
def spName : Sp := fun vs H Q _ => ∃ v, vs = [v] ∧ Thing H v ∧ ∀ H', Same H H' → Q (.bl (isName v)) H'
theorem ok_is_name (T : Txt K mg t) : FnOk P w K mg base CX0 1 t.f_is_name t.d_is_name ["thing"] spName := by
  refine T.F_is_name.ok sc_is_name (fun vs H Q E h => ?_) (fun cdv A outer s H vs Q E hr h => ?_)
  · obtain ⟨v, rfl, _⟩ := h
    rfl
  obtain ⟨v, rfl, hv, k⟩ := h
  refine' ⟨_, ?der, ?_⟩
  case der =>
   conv => arg 2; whnf
   with_reducible refine' pss_cons ?d299 ?d300
   case d299 =>
    with_reducible refine' ps_if ?d301 ?d302 ?d303
    case d301 =>
     with_reducible refine' PW.pt ?d304
     case d304 =>
      with_reducible refine' pw_or ?d305 ?d306
      case d305 =>
       with_reducible refine' pt_not ?d307
       case d307 =>
        with_reducible refine' pt_val ?d308 ?d309
        case d308 =>
         with_reducible refine' pe_callBk ?d310 ?d311 ?d312 ?d313 ?d314 ?d315 ?d316
         case d310 => exact call_inst
         case d311 => exact q_is_name_isinstance
         case d312 => exact T.z_isinstance
         case d313 => exact PyProof.Rows.boot_isinstance
         case d314 =>
          with_reducible refine' pa_c ?d317 ?d318 ?d319
          case d317 => exact (pvk 0 q_is_name_thing (by rfl) (by rfl))
          case d318 =>
           with_reducible refine' pa_c ?d320 ?d321 ?d322
           case d320 =>
            with_reducible refine' pe_bltnk (v := .ty "str") ?d323 ?d324 ?d325 ?d326
            case d323 => exact q_is_name_str
            case d324 => exact T.z_str
            case d325 => rfl
            case d326 => exact rfl
           case d321 => exact pa_nil
           case d322 => rfl
          case d319 => rfl
         case d315 => rfl
         case d316 => rfl
        case d309 => (intro _; rfl)
      case d306 =>
       with_reducible refine' pw_or1 ?d327
       case d327 =>
        with_reducible refine' pt_not ?d328
        case d328 =>
         with_reducible refine' pt_chain ?d329 ?d330 ?d331 ?d332 ?d333 ?d334
         case d329 => exact op_leA
         case d330 => exact op_leA
         case d331 => exact pe_int
         case d332 =>
          with_reducible refine' pe_callBk ?d335 ?d336 ?d337 ?d338 ?d339 ?d340 ?d341
          case d335 => exact call_lenA
          case d336 => exact q_is_name_len
          case d337 => exact T.z_len
          case d338 => exact PySem.boot_len
          case d339 =>
           with_reducible refine' pa_c ?d342 ?d343 ?d344
           case d342 => exact (pvk 0 q_is_name_thing (by rfl) (by rfl))
           case d343 => exact pa_nil
           case d344 => rfl
          case d340 => rfl
          case d341 => rfl
         case d333 =>
          with_reducible refine' pe_globk ?d345 ?d346 ?d347
          case d345 => exact q_is_name_LONGEST_NAME
          case d346 => exact T.c_LONGEST_NAME
          case d347 => exact T.r_LONGEST_NAME
         case d334 => with_unfolding_all rfl
    case d302 =>
     with_reducible refine' pss_one ?d348
     case d348 =>
      with_reducible refine' ps_ret ?d349
      case d349 => exact pe_bl
    case d303 => exact pss_nil
   case d300 =>
    with_reducible refine' pss_one ?d350
    case d350 =>
     with_reducible refine' ps_ret ?d351
     case d351 =>
      with_reducible refine' pe_callBk ?d352 ?d353 ?d354 ?d355 ?d356 ?d357 ?d358
      case d352 => exact (call_all rfl)
      case d353 => exact q_is_name_all
      case d354 => exact T.z_all
      case d355 => exact PyProof.Rows.boot_all
      case d356 =>
       with_reducible refine' pa_c ?d359 ?d360 ?d361
       case d359 =>
        with_reducible refine' pe_comp (N' := ["sign"]) (ix := [none]) ?d362 ?d363 ?d364 ?d365 ?d366 ?d367 ?d368
        case d362 => exact ⟨rfl, by decide +kernel, by decide +kernel, comp_free _ _ rfl, rfl, comp_ix _ _ _ _ rfl⟩
        case d363 => exact rfl
        case d364 =>
         with_reducible refine' pi_str ?d369
         case d369 => exact (pvk 0 q_is_name_thing (by rfl) (by rfl))
        case d365 =>
         intro _ _ _ _
         exact (pgo (i := 0) ⟨by decide +kernel, by decide +kernel, by decide +kernel, by decide +kernel⟩ (show List.Nodup (["sign"] : List Str) from by decide +kernel) (by rfl))
        case d366 =>
         intro _ _ _ _
         exact pts_nil
        case d367 =>
         intro _ _ _ _
         with_reducible refine' pe_chain ?d370 ?d371 ?d372 ?d373 ?d374 ?d375
         case d370 => exact op_leA
         case d371 => exact op_leA
         case d372 => exact pe_str
         case d373 => exact (pvk 0 (NmOk.own ⟨by decide +kernel, by decide +kernel, by decide +kernel, by decide +kernel⟩) (by rfl) (by rfl))
         case d374 => exact pe_str
         case d375 => with_unfolding_all rfl
        case d368 => (intro _; rfl)
       case d360 => exact pa_nil
       case d361 => rfl
      case d357 => rfl
      case d358 => rfl
  cases v with
  | non => walk_at "vs"; exact k H (Same.refl _)
  | bl b => walk_at "vs"; exact k H (Same.refl _)
  | int i => walk_at "vs"; exact k H (Same.refl _)
  | ref a =>
    rcases hv with ⟨xs, hv⟩ | ⟨xs, hv⟩
    · walk_at "vs"; exact k H (Same.refl _)
    · walk_at "vs"; exact k H (Same.refl _)
  | str z =>
    have hz : z.length ≤ sizeLine := small (Nat.le_trans hv (by decide))
    walk_at "vs"
    refine v_lenS hz ?_
    walk_at "vs"
    have no : ∀ H', Same H H' → (¬ 1 ≤ z.length ∨ ¬ z.length ≤ 8) → Q (.bl false) H' := fun H' sm hn => by
      have q := k H' sm
      have e : isName (.str z) = false := by
        rw [name_str]
        rcases hn with hn | hn <;> simp [hn]
      rwa [e] at q
    refine v_iteD (fun h1 => ?_) (fun h1 => ?_)
    · walk_at "vs"
      refine v_iteN (fun h2 => ?_) (fun h2 => ?_)
      · walk_at "vs"
        exact no H (Same.refl _) (.inr (by omega))
      · walk_at "vs"
        intro D hD
        refine comp_str (fun i acc H2 => acc = (z.cps.toList.take i).map (fun c => V.bl (low c)) ∧ Same H H2) ⟨by simp, same_new hD _⟩ ?_ ?_
        · rintro i acc H2 hi ⟨rfl, sm⟩ hD2
          have hz8 : z.cps.size ≤ 100 := hv
          refine ⟨by rw [List.length_map, List.length_take]; exact small1000 (by omega), ?_⟩
          have nx : ∀ b : Bool, b = low (z.cps.getD i 0) → H2 D = some (.lst ((z.cps.toList.take i).map (fun c => V.bl (low c)))) ∧ Nx z.cps.size (fun i acc H2 => acc = (z.cps.toList.take i).map (fun c => V.bl (low c)) ∧ Same H H2) i ((z.cps.toList.take i).map (fun c => V.bl (low c)) ++ [V.bl b]) (upd H2 D (.lst ((z.cps.toList.take i).map (fun c => V.bl (low c)) ++ [V.bl b]))) := fun b hb => by
            refine ⟨hD2, Nx.of hi ⟨?_, sm.upd_own hD⟩⟩
            rw [take_one hi, List.map_append, hb]
            rfl
          walk_at "vs"
          refine ⟨kept_set rfl, ?_⟩
          walk_at "vs"
          rw [signA]
          refine v_iteD (fun h3 => ?_) (fun h3 => ?_)
          · walk_at "vs"
            rw [signZ]
            exact nx _ (by unfold low; rw [decide_eq_true h3, Bool.true_and])
          · walk_at "vs"
            exact nx _ (by unfold low; rw [decide_eq_false h3, Bool.false_and])
        · rintro acc H2 ⟨rfl, sm⟩ hD2
          walk_at "vs"
          have hD3 : H2 D = some (.lst ((z.cps.toList.map low).map V.bl)) := by
            rw [hD2, take_all, List.map_map]
            rfl
          refine v_all hD3 ?_
          have q := k H2 sm
          have e : isName (.str z) = (z.cps.toList.map low).all id := by
            rw [name_str, List.all_map]
            have a1 : 1 ≤ z.length := by omega
            have a2 : z.length ≤ 8 := by omega
            simp [a1, a2]
          rw [e] at q
          exact q
    · walk_at "vs"
      exact no H (Same.refl _) (.inl (by omega))
  | _ => exact hv.elim
def isNum : V → Bool
  | .int _ => true
  | _ => false
def spNum : Sp := fun vs H Q _ => ∃ v, vs = [v] ∧ Thing H v ∧ Q (.bl (isNum v)) H
theorem ok_is_number (T : Txt K mg t) : FnOk P w K mg base CX0 1 t.f_is_number t.d_is_number ["thing"] spNum := by
  refine T.F_is_number.ok sc_is_number (fun vs H Q E h => ?_) (fun cdv A outer s H vs Q E hr h => ?_)
  · obtain ⟨v, rfl, _⟩ := h
    rfl
  obtain ⟨v, rfl, hv, k⟩ := h
  refine' ⟨_, ?der, ?_⟩
  case der =>
   conv => arg 2; whnf
   with_reducible refine' pss_one ?d376
   case d376 =>
    with_reducible refine' ps_ret ?d377
    case d377 =>
     with_reducible refine' pe_and ?d378 ?d379
     case d378 =>
      with_reducible refine' pe_callBk ?d380 ?d381 ?d382 ?d383 ?d384 ?d385 ?d386
      case d380 => exact call_inst
      case d381 => exact q_is_number_isinstance
      case d382 => exact T.z_isinstance
      case d383 => exact PyProof.Rows.boot_isinstance
      case d384 =>
       with_reducible refine' pa_c ?d387 ?d388 ?d389
       case d387 => exact (pvk 0 q_is_number_thing (by rfl) (by rfl))
       case d388 =>
        with_reducible refine' pa_c ?d390 ?d391 ?d392
        case d390 =>
         with_reducible refine' pe_bltnk (v := .ty "int") ?d393 ?d394 ?d395 ?d396
         case d393 => exact q_is_number_int
         case d394 => exact T.z_int
         case d395 => rfl
         case d396 => exact rfl
        case d391 => exact pa_nil
        case d392 => rfl
       case d389 => rfl
      case d385 => rfl
      case d386 => rfl
     case d379 =>
      with_reducible refine' pe_one ?d397
      case d397 =>
       with_reducible refine' pe_not ?d398
       case d398 =>
        with_reducible refine' pe_callBk ?d399 ?d400 ?d401 ?d402 ?d403 ?d404 ?d405
        case d399 => exact call_inst
        case d400 => exact q_is_number_isinstance
        case d401 => exact T.z_isinstance
        case d402 => exact PyProof.Rows.boot_isinstance
        case d403 =>
         with_reducible refine' pa_c ?d406 ?d407 ?d408
         case d406 => exact (pvk 0 q_is_number_thing (by rfl) (by rfl))
         case d407 =>
          with_reducible refine' pa_c ?d409 ?d410 ?d411
          case d409 =>
           with_reducible refine' pe_bltnk (v := .ty "bool") ?d412 ?d413 ?d414 ?d415
           case d412 => exact q_is_number_bool
           case d413 => exact T.z_bool
           case d414 => rfl
           case d415 => exact rfl
          case d410 => exact pa_nil
          case d411 => rfl
         case d408 => rfl
        case d404 => rfl
        case d405 => rfl
  cases v with
  | non => walk_at "vs"; exact k
  | bl b => walk_at "vs"; exact k
  | int i => walk_at "vs"; exact k
  | str i => walk_at "vs"; exact k
  | ref a =>
    rcases hv with ⟨xs, hv⟩ | ⟨xs, hv⟩
    · walk_at "vs"; exact k
    · walk_at "vs"; exact k
  | _ => exact hv.elim
theorem at0 (x : V) (r : List V) : atI (x :: r) 0 = some x := atI_nat (j := 0) rfl
def isNameD : D → Bool
  | .str z => isName (.str z)
  | _ => false
theorem rep_thing {H : Hp} {d : D} {v : V} (h : Rep H d v) (hs : d.short = true) : Thing H v := by
  cases d with
  | non => cases (show v = .non from h); exact True.intro
  | bl b => cases (show v = .bl b from h); exact True.intro
  | int b => cases (show v = .int b from h); exact True.intro
  | str b => cases (show v = .str b from h); show b.length ≤ 100; simpa [L2.D.short] using hs
  | tup ds => obtain ⟨a, xs, rfl, e, _⟩ := h; exact .inr ⟨xs, e⟩
  | lst ds => obtain ⟨a, xs, rfl, e, _⟩ := h; exact .inl ⟨xs, e⟩
theorem rep_name {H : Hp} {d : D} {v : V} (h : Rep H d v) : isName v = isNameD d := by
  cases d with
  | non => cases (show v = .non from h); rfl
  | bl b => cases (show v = .bl b from h); rfl
  | int b => cases (show v = .int b from h); rfl
  | str b => cases (show v = .str b from h); rfl
  | tup ds => obtain ⟨a, xs, rfl, e, _⟩ := h; rfl
  | lst ds => obtain ⟨a, xs, rfl, e, _⟩ := h; rfl
abbrev dS (x : String) : D := .str (Str.ofString x)
def one (f : D → Bool) : List D → Bool
  | [a] => f a
  | _ => false
def two (f : D → D → Bool) : List D → Bool
  | [a, b] => f a b
  | _ => false
theorem one_no {f : D → Bool} : ∀ {ps : List D}, ps.length ≠ 1 → one f ps = false
  | [], _ => rfl
  | [_], h => absurd rfl h
  | _ :: _ :: _, _ => rfl
theorem two_no {f : D → D → Bool} : ∀ {ps : List D}, ps.length ≠ 2 → two f ps = false
  | [], _ => rfl
  | [_], _ => rfl
  | [_, _], h => absurd rfl h
  | _ :: _ :: _ :: _, _ => rfl
theorem len1 : ∀ {ps : List D}, ps.length = 1 → ∃ a, ps = [a]
  | [a], _ => ⟨a, rfl⟩
theorem len2 : ∀ {ps : List D}, ps.length = 2 → ∃ a b, ps = [a, b]
  | [a, b], _ => ⟨a, b, rfl⟩
end
end K14

set_option Elab.async false
set_option linter.all false
set_option maxRecDepth 100000
set_option maxHeartbeats 8000000
namespace K14
open PySem L2
local macro_rules | `(tactic| walk_at "as") => `(tactic| with_reducible assumption)
local macro_rules | `(tactic| walk_at "hand") => `(tactic| first | walk_at "as" | (with_reducible refine' Hand.new ?hdx ?hdy; (case hdy => walk_at "as"); (case hdx => walk_at "hand")))
local macro_rules | `(tactic| walk_at "same") => `(tactic| first | with_reducible exact Same.refl _ | walk_at "as" | (with_reducible refine' Same.trans ?smx (same_new ?smy _); (case smy => walk_at "as"); (case smx => walk_at "same")))
local macro_rules | `(tactic| walk_at "ne") => `(tactic| first | walk_at "as" | (apply Ne.symm; walk_at "as"))
local macro_rules | `(tactic| walk_at "hg") => `(tactic| first | with_reducible exact upd_same | walk_at "as" | (with_reducible refine' upd_new ?hgx ?hgy; (case hgy => walk_at "as"); (case hgx => walk_at "hg")) | (with_reducible refine' Eq.trans (upd_ne ?hgn) ?hgx; (case hgn => walk_at "ne"); (case hgx => walk_at "hg")))
local macro_rules | `(tactic| walk_at "v") => `(tactic| (with_reducible first
  | refine iteT ?_ | refine iteF ?_ | refine v_iteNT ?_ | refine v_iteNF ?_ | refine v_abs ?_ | refine v_seq ?_ | refine v_asg ?_ | refine v_ifS ?_ | refine v_ret ?_ | refine v_retN ?_ | refine v_next ?_ | refine v_break ?_ | refine v_cont ?_ | refine v_drop ?_ | refine v_name ?_ | refine v_gsub ?_
  | refine v_C ?_ | refine v_op ?_ | refine v_un ?_ | refine v_neg ?_ | refine v_test ?_ | refine v_tB ?_ | refine v_bl ?_ | refine v_or ?_ | refine v_and ?_ | refine v_not ?_ | refine v_andV ?_ | refine v_orV ?_ | refine v_notV ?_ | refine v_if ?_ | refine v_chain ?_
  | refine v_call ?_ | refine v_CB ?_ | refine v_cons ?_ | refine v_nil ?_ | refine v_lst ?_ | refine v_tup ?_ | refine v_sl ?_ | refine v_noPart ?_ | refine v_part ?_ | refine v_int ?_ | refine v_bm ?_ | refine v_true ?_
  | refine v_rI0 ?_ | refine v_addI ?_ | refine v_ltI ?_ | refine v_leI ?_ | refine v_gtI ?_ | refine v_geI ?_ | refine v_ltS ?_ | refine v_leS ?_ | refine v_gtS ?_ | refine v_geS ?_
  | refine v_eqI ?_ | refine v_eqS ?_ | refine v_eqB ?_ | refine v_neI ?_ | refine v_neS ?_ | refine v_neB ?_ | refine v_isB ?_ | refine v_isN ?_ | refine v_comp ?_ | refine v_iR1 ?_ | refine v_iStr ?_ | refine v_iStr' ?_ | refine v_iL ?_
  | (refine' v_var ?hv ?_; (case hv => with_unfolding_all rfl))
  | (refine' v_ixL ?h1 ?h2 ?_; (case h1 => walk_at "hg"); (case h2 => with_unfolding_all rfl))
  | (refine' v_ixT ?h1 ?h2 ?_; (case h1 => walk_at "hg"); (case h2 => with_unfolding_all rfl))
  | (refine' v_setL ?h1 ?h2 ?_; (case h1 => walk_at "hg"); (case h2 => with_unfolding_all rfl))
  | (refine' v_lenL ?h1 ?_; (case h1 => walk_at "hg"))
  | (refine' v_lenT ?h1 ?_; (case h1 => walk_at "hg"))
  | (refine v_instT ?h1 ?h2 ?h3 ?_; (case h1 => (simp [tyName, instB, *]; done)); (case h2 => (simp [tyName, *]; done)); (case h3 => (simp; done)))
  | (refine v_instF ?h1 ?h2 ?h3 ?_; (case h1 => (simp [tyName, instB, *]; done)); (case h2 => (simp [tyName, *]; done)); (case h3 => (simp; done)))
  | (refine v_mulI ?h1 ?_; (case h1 => (unfold CMul; omega)))
  | (refine v_rI ?h1 ?_; (case h1 => first | omega | (unfold CDiv; omega) | (unfold CPow; omega)))))
local macro_rules | `(tactic| walk_at "v2") => `(tactic| (with_reducible first | refine v_isNotB ?_ | refine v_isNotN ?_ | refine v_disp ?_ | refine v_pcons ?_ | refine v_pnil ?_ | refine v_dget2 ?_ | refine v_iT ?_ | refine v_chain3 ?_ | refine v_inSign ?_))
local macro_rules | `(tactic| walk_at "w") => `(tactic| repeat (first | walk_at "v" | walk_at "v2"))
local macro_rules | `(tactic| walk_at "vs") => `(tactic| repeat (walk_at "v"))
section
variable {P : Program} {w : World} {K : PySem.W.Frag} {mg : Str → Option Value} {base : Heap} {t : Adr}
def timesB : V → V → Bool
  | .int l, .int h => decide (0 ≤ l) && decide (l ≤ h) && decide (h ≤ 6)
  | _, _ => false
def spTimes : Sp := fun vs H Q _ => ∃ x y, vs = [x, y] ∧ Thing H x ∧ Thing H y ∧ Q (.bl (timesB x y)) H
theorem ok_are_times (T : Txt K mg t) : FnOk P w K mg base CX0 2 t.f_are_times t.d_are_times ["low", "high"] spTimes := by
  refine T.F_are_times.ok sc_are_times (fun vs H Q E h => ?_) (fun cdv A outer s H vs Q E hr h => ?_)
  · obtain ⟨x, y, rfl, _⟩ := h
    rfl
  obtain ⟨x, y, rfl, hx, hy, k⟩ := h
  have G_is_number : FnOk P w K mg base CX0 1 t.f_is_number t.d_is_number ["thing"] spNum := ok_is_number T
  refine' ⟨_, ?der, ?_⟩
  case der =>
   conv => arg 2; whnf
   with_reducible refine' pss_one ?d1
   case d1 =>
    with_reducible refine' ps_ret ?d2
    case d2 =>
     with_reducible refine' pe_and ?d3 ?d4
     case d3 =>
      with_reducible refine' pe_callk ?d5 ?d6 ?d7 ?d8 ?d9 ?d10 ?d11 ?d12 ?d13 ?d14 ?d15
      case d5 => exact G_is_number
      case d6 => exact (hr.mono (by omega))
      case d7 => exact q_are_times_is_number
      case d8 => exact T.m_is_number
      case d9 => exact T.F_is_number.kp
      case d10 => exact T.b_is_number
      case d11 => exact .nil
      case d12 => exact pass0
      case d13 =>
       with_reducible refine' pa_c ?d16 ?d17 ?d18
       case d16 => exact (pvk 0 q_are_times_low (by rfl) (by rfl))
       case d17 => exact pa_nil
       case d18 => rfl
      case d14 => rfl
      case d15 => rfl
     case d4 =>
      with_reducible refine' pe_and ?d19 ?d20
      case d19 =>
       with_reducible refine' pe_callk ?d21 ?d22 ?d23 ?d24 ?d25 ?d26 ?d27 ?d28 ?d29 ?d30 ?d31
       case d21 => exact G_is_number
       case d22 => exact (hr.mono (by omega))
       case d23 => exact q_are_times_is_number
       case d24 => exact T.m_is_number
       case d25 => exact T.F_is_number.kp
       case d26 => exact T.b_is_number
       case d27 => exact .nil
       case d28 => exact pass0
       case d29 =>
        with_reducible refine' pa_c ?d32 ?d33 ?d34
        case d32 => exact (pvk 1 q_are_times_high (by rfl) (by rfl))
        case d33 => exact pa_nil
        case d34 => rfl
       case d30 => rfl
       case d31 => rfl
      case d20 =>
       with_reducible refine' pe_one ?d35
       case d35 =>
        with_reducible refine' pe_chain3 ?d36 ?d37 ?d38 ?d39 ?d40 ?d41 ?d42 ?d43
        case d36 => exact op_leA
        case d37 => exact op_leA
        case d38 => exact op_leA
        case d39 => exact pe_int
        case d40 => exact (pvk 0 q_are_times_low (by rfl) (by rfl))
        case d41 => exact (pvk 1 q_are_times_high (by rfl) (by rfl))
        case d42 =>
         with_reducible refine' pe_globk ?d44 ?d45 ?d46
         case d44 => exact q_are_times_MOST_TIMES
         case d45 => exact T.c_MOST_TIMES
         case d46 => exact T.r_MOST_TIMES
        case d43 => with_unfolding_all rfl
  walk_at "w"
  refine ⟨x, rfl, hx, ?_⟩
  cases hx1 : isNum x with
  | false =>
    walk_at "w"
    have e : timesB x y = false := by cases x <;> first | rfl | cases hx1
    rw [e] at k
    exact k
  | true =>
    obtain ⟨l, rfl⟩ : ∃ l, x = .int l := by cases x <;> first | exact ⟨_, rfl⟩ | cases hx1
    walk_at "w"
    refine ⟨y, rfl, hy, ?_⟩
    cases hy1 : isNum y with
    | false =>
      walk_at "w"
      have e : timesB (.int l) y = false := by cases y <;> first | rfl | cases hy1
      rw [e] at k
      exact k
    | true =>
      obtain ⟨h, rfl⟩ : ∃ l, y = .int l := by cases y <;> first | exact ⟨_, rfl⟩ | cases hy1
      walk_at "w"
      have kk : ∀ b, b = (decide (0 ≤ l) && decide (l ≤ h) && decide (h ≤ 6)) → Q (.bl b) H := fun b e => by rw [e]; exact k
      refine v_iteD (fun h1 => ?_) (fun h1 => ?_)
      · walk_at "w"
        refine v_iteD (fun h2 => ?_) (fun h2 => ?_)
        · walk_at "w"
          exact kk _ (by rw [decide_eq_true h1, decide_eq_true h2]; rfl)
        · exact kk _ (by rw [decide_eq_true h1, decide_eq_false h2]; rfl)
      · exact kk _ (by rw [decide_eq_false h1]; rfl)
def in3w (w : D) : Bool := [dS "forth", dS "back", dS "either"].any fun e => deq e w
def in2w (w : D) : Bool := [dS "then", dS "or"].any fun e => deq e w
def kindD : D → Bool
  | .non => true
  | d => isNameD d
def timesD : D → D → Bool
  | .int l, .int h => decide (0 ≤ l) && decide (l ≤ h) && decide (h ≤ 6)
  | _, _ => false
def three (f : D → D → D → Bool) : List D → Bool
  | [a, b, c] => f a b c
  | _ => false
theorem three_no {f : D → D → D → Bool} : ∀ {ps : List D}, ps.length ≠ 3 → three f ps = false
  | [], _ => rfl
  | [_], _ => rfl
  | [_, _], _ => rfl
  | [_, _, _], h => absurd rfl h
  | _ :: _ :: _ :: _ :: _, _ => rfl
theorem len3 : ∀ {ps : List D}, ps.length = 3 → ∃ a b c, ps = [a, b, c]
  | [a, b, c], _ => ⟨a, b, c, rfl⟩
theorem rep_times {H : Hp} {d e : D} {v u : V} (h : Rep H d v) (h2 : Rep H e u) : timesB v u = timesD d e := by
  have a : ∀ {d : D} {v : V}, Rep H d v → (∃ i, v = .int i ∧ d = .int i) ∨ ((∀ i, v ≠ .int i) ∧ ∀ i, d ≠ .int i) := by
    intro d v h
    cases d with
    | int i => exact .inl ⟨i, h, rfl⟩
    | non => cases (show v = .non from h); exact .inr ⟨fun i e => (by cases e), fun i e => (by cases e)⟩
    | bl b => cases (show v = .bl b from h); exact .inr ⟨fun i e => (by cases e), fun i e => (by cases e)⟩
    | str b => cases (show v = .str b from h); exact .inr ⟨fun i e => (by cases e), fun i e => (by cases e)⟩
    | tup ds => obtain ⟨a, xs, rfl, _⟩ := h; exact .inr ⟨fun i e => (by cases e), fun i e => (by cases e)⟩
    | lst ds => obtain ⟨a, xs, rfl, _⟩ := h; exact .inr ⟨fun i e => (by cases e), fun i e => (by cases e)⟩
  have nb : ∀ {v u : V}, ((∀ i, v ≠ .int i) ∨ ∀ i, u ≠ .int i) → timesB v u = false := by
    intro v u h
    cases v with
    | int i =>
      cases u with
      | int j => rcases h with h | h <;> exact absurd rfl (h _)
      | _ => rfl
    | _ => rfl
  have nd : ∀ {v u : D}, ((∀ i, v ≠ .int i) ∨ ∀ i, u ≠ .int i) → timesD v u = false := by
    intro v u h
    cases v with
    | int i =>
      cases u with
      | int j => rcases h with h | h <;> exact absurd rfl (h _)
      | _ => rfl
    | _ => rfl
  rcases a h with ⟨i, rfl, rfl⟩ | ⟨n1, n2⟩
  · rcases a h2 with ⟨j, rfl, rfl⟩ | ⟨m1, m2⟩
    · rfl
    · rw [nb (.inr m1), nd (.inr m2)]
  · rw [nb (.inl n1), nd (.inl n2)]
theorem rep_non {H : Hp} {d : D} {v : V} (h : Rep H d v) : decide (v = .non) = true ↔ d = .non := by
  cases d with
  | non => cases (show v = .non from h); simp
  | int i => cases (show v = .int i from h); simp
  | bl b => cases (show v = .bl b from h); simp
  | str b => cases (show v = .str b from h); simp
  | tup ds => obtain ⟨a, xs, rfl, _⟩ := h; simp
  | lst ds => obtain ⟨a, xs, rfl, _⟩ := h; simp
theorem v_orSh {c : Prop} [Decidable c] {Q : VK} {TT : Hp → VK → Prop} {H : Hp} (R : Bool → Hp → Prop) (hR : ∀ b H', R b H' → Q (.bl b) H') (h1 : c → R true H) (h2 : ¬ c → (∀ b H', R b H' → Q (.bl b) H') → TT H Q) :
    if decide c = true then Q (.bl true) H else TT H Q := v_iteD (fun h => hR _ _ (h1 h)) (fun h => h2 h hR)
def isWayF : Nat → D → Bool
  | 0, _ => false
  | n + 1, .tup (w :: ps) =>
    if deq w (dS "step") = true then two (fun a b => kindD a && in3w b) ps
    else if deq w (dS "empty") = true then decide (ps.length = 0)
    else if in2w w = true then two (fun a b => isWayF n a && isWayF n b) ps
    else if deq w (dS "again") = true then one (isWayF n) ps
    else deq w (dS "many") && three (fun a b c => timesD b c && isWayF n a) ps
  | _ + 1, _ => false
theorem wayF_eq (n : Nat) (w : D) (ps : List D) : isWayF (n + 1) (.tup (w :: ps)) = if deq w (dS "step") = true then two (fun a b => kindD a && in3w b) ps
    else if deq w (dS "empty") = true then decide (ps.length = 0)
    else if in2w w = true then two (fun a b => isWayF n a && isWayF n b) ps
    else if deq w (dS "again") = true then one (isWayF n) ps
    else deq w (dS "many") && three (fun a b c => timesD b c && isWayF n a) ps := rfl
def spIsWay (n : Nat) : Sp := fun vs H Q _ => ∃ (v : V) (d : D), vs = [v] ∧ Rep H d v ∧ d.short = true ∧ d.deep ≤ 100 ∧ d.deep < n ∧ ∀ H', Same H H' → Q (.bl (isWayF n d)) H'
theorem ok_is_way (T : Txt K mg t) : ∀ n : Nat, FnOk P w K mg base CX0 (n + 2) t.f_is_way t.d_is_way ["thing"] (spIsWay n)
  | 0 => by
    have none : ∀ vs H Q E, ¬ spIsWay 0 vs H Q E := fun vs H Q E h => by
      obtain ⟨v, d, _, _, _, _, h, _⟩ := h
      exact absurd h (Nat.not_lt_zero _)
    exact ⟨fun vs H Q E h => absurd h (none vs H Q E), fun A outer s H args us vs Q E _ _ _ _ h => absurd h (none vs H Q E)⟩
  | n + 1 => by
    have G_is_way : FnOk P w K mg base CX0 (n + 2) t.f_is_way t.d_is_way ["thing"] (spIsWay n) := ok_is_way T n
    have G_is_name : FnOk P w K mg base CX0 1 t.f_is_name t.d_is_name ["thing"] spName := ok_is_name T
    have G_are_times : FnOk P w K mg base CX0 2 t.f_are_times t.d_are_times ["low", "high"] spTimes := ok_are_times T
    refine T.F_is_way.ok sc_is_way (fun vs H Q E h => ?_) (fun cdv A outer s H vs Q E hr h => ?_)
    · obtain ⟨v, d, rfl, _⟩ := h
      rfl
    obtain ⟨v, d, rfl, hv, hsh, hdp, hn, k⟩ := h
    refine' ⟨_, ?der, ?_⟩
    case der =>
     conv => arg 2; whnf
     with_reducible refine' pss_cons ?d47 ?d48
     case d47 =>
      with_reducible refine' ps_if ?d49 ?d50 ?d51
      case d49 =>
       with_reducible refine' PW.pt ?d52
       case d52 =>
        with_reducible refine' pw_or ?d53 ?d54
        case d53 =>
         with_reducible refine' pt_not ?d55
         case d55 =>
          with_reducible refine' pt_val ?d56 ?d57
          case d56 =>
           with_reducible refine' pe_callBk ?d58 ?d59 ?d60 ?d61 ?d62 ?d63 ?d64
           case d58 => exact call_inst
           case d59 => exact q_is_way_isinstance
           case d60 => exact T.z_isinstance
           case d61 => exact PyProof.Rows.boot_isinstance
           case d62 =>
            with_reducible refine' pa_c ?d65 ?d66 ?d67
            case d65 => exact (pvk 0 q_is_way_thing (by rfl) (by rfl))
            case d66 =>
             with_reducible refine' pa_c ?d68 ?d69 ?d70
             case d68 =>
              with_reducible refine' pe_bltnk (v := .ty "tuple") ?d71 ?d72 ?d73 ?d74
              case d71 => exact q_is_way_tuple
              case d72 => exact T.z_tuple
              case d73 => rfl
              case d74 => exact rfl
             case d69 => exact pa_nil
             case d70 => rfl
            case d67 => rfl
           case d63 => rfl
           case d64 => rfl
          case d57 => (intro _; rfl)
        case d54 =>
         with_reducible refine' pw_or1 ?d75
         case d75 =>
          with_reducible refine' pt_cmpR ?d76 ?d77 ?d78 ?d79
          case d76 => exact op_eq
          case d77 =>
           with_reducible refine' pe_callBk ?d80 ?d81 ?d82 ?d83 ?d84 ?d85 ?d86
           case d80 => exact call_lenA
           case d81 => exact q_is_way_len
           case d82 => exact T.z_len
           case d83 => exact PySem.boot_len
           case d84 =>
            with_reducible refine' pa_c ?d87 ?d88 ?d89
            case d87 => exact (pvk 0 q_is_way_thing (by rfl) (by rfl))
            case d88 => exact pa_nil
            case d89 => rfl
           case d85 => rfl
           case d86 => rfl
          case d78 => exact pe_int
          case d79 => exact (nomark _)
      case d50 =>
       with_reducible refine' pss_one ?d90
       case d90 =>
        with_reducible refine' ps_ret ?d91
        case d91 => exact pe_bl
      case d51 => exact pss_nil
     case d48 =>
      with_reducible refine' pss_cons ?d92 ?d93
      case d92 =>
       with_reducible refine' ps_setk (i := 1) ?d94 ?d95 ?d96 ?d97 ?d98 ?d99
       case d94 => exact sc_is_way.nd
       case d95 => exact rfl
       case d96 => exact (Or.inl q_is_way_word.lk)
       case d97 =>
        with_reducible refine' pe_ix ?d100 ?d101 ?d102 ?d103
        case d100 => exact ix_any
        case d101 => exact (pvk 0 q_is_way_thing (by rfl) (by rfl))
        case d102 => exact pe_int
        case d103 => exact (fun _ _ => rfl)
       case d98 => rfl
       case d99 => rfl
      case d93 =>
       with_reducible refine' pss_cons ?d104 ?d105
       case d104 =>
        with_reducible refine' ps_setk (i := 2) ?d106 ?d107 ?d108 ?d109 ?d110 ?d111
        case d106 => exact sc_is_way.nd
        case d107 => exact rfl
        case d108 => exact (Or.inl q_is_way_parts.lk)
        case d109 =>
         with_reducible refine' pe_slice ?d112 ?d113 ?d114 ?d115
         case d112 => exact sl_tup
         case d113 => exact (pvk 0 q_is_way_thing (by rfl) (by rfl))
         case d114 =>
          with_reducible refine' po_some ?d116
          case d116 => exact pe_int
         case d115 => exact po_none
        case d110 => rfl
        case d111 => rfl
       case d105 =>
        with_reducible refine' pss_cons ?d117 ?d118
        case d117 =>
         with_reducible refine' ps_if ?d119 ?d120 ?d121
         case d119 =>
          with_reducible refine' pt_cmpR ?d122 ?d123 ?d124 ?d125
          case d122 => exact (op_eqD (hu150 hr))
          case d123 => exact (pvk 1 q_is_way_word (by rfl) (by rfl))
          case d124 => exact pe_str
          case d125 => exact (nomark _)
         case d120 =>
          with_reducible refine' pss_one ?d126
          case d126 =>
           with_reducible refine' ps_ret ?d127
           case d127 =>
            with_reducible refine' pe_and ?d128 ?d129
            case d128 =>
             with_reducible refine' pe_cmpR ?d130 ?d131 ?d132 ?d133
             case d130 => exact op_eq
             case d131 =>
              with_reducible refine' pe_callBk ?d134 ?d135 ?d136 ?d137 ?d138 ?d139 ?d140
              case d134 => exact call_lenA
              case d135 => exact q_is_way_len
              case d136 => exact T.z_len
              case d137 => exact PySem.boot_len
              case d138 =>
               with_reducible refine' pa_c ?d141 ?d142 ?d143
               case d141 => exact (pvk 2 q_is_way_parts (by rfl) (by rfl))
               case d142 => exact pa_nil
               case d143 => rfl
              case d139 => rfl
              case d140 => rfl
             case d132 => exact pe_int
             case d133 => exact (nomark _)
            case d129 =>
             with_reducible refine' pe_and ?d144 ?d145
             case d144 =>
              with_reducible refine' pe_or ?d146 ?d147
              case d146 =>
               with_reducible refine' pe_cmpR ?d148 ?d149 ?d150 ?d151
               case d148 => exact op_isA
               case d149 =>
                with_reducible refine' pe_ix ?d152 ?d153 ?d154 ?d155
                case d152 => exact ix_any
                case d153 => exact (pvk 2 q_is_way_parts (by rfl) (by rfl))
                case d154 => exact pe_int
                case d155 => exact (fun _ _ => rfl)
               case d150 => exact pe_non
               case d151 => exact (nomark _)
              case d147 =>
               with_reducible refine' pe_one ?d156
               case d156 =>
                with_reducible refine' pe_callk ?d157 ?d158 ?d159 ?d160 ?d161 ?d162 ?d163 ?d164 ?d165 ?d166 ?d167
                case d157 => exact G_is_name
                case d158 => exact (hr.mono (by omega))
                case d159 => exact q_is_way_is_name
                case d160 => exact T.m_is_name
                case d161 => exact T.F_is_name.kp
                case d162 => exact T.b_is_name
                case d163 => exact .nil
                case d164 => exact pass0
                case d165 =>
                 with_reducible refine' pa_c ?d168 ?d169 ?d170
                 case d168 =>
                  with_reducible refine' pe_ix ?d171 ?d172 ?d173 ?d174
                  case d171 => exact ix_any
                  case d172 => exact (pvk 2 q_is_way_parts (by rfl) (by rfl))
                  case d173 => exact pe_int
                  case d174 => exact (fun _ _ => rfl)
                 case d169 => exact pa_nil
                 case d170 => rfl
                case d166 => rfl
                case d167 => rfl
             case d145 =>
              with_reducible refine' pe_one ?d175
              case d175 =>
               with_reducible refine' pe_cmpR ?d176 ?d177 ?d178 ?d179
               case d176 => exact (op_inD (hu151 hr))
               case d177 =>
                with_reducible refine' pe_ix ?d180 ?d181 ?d182 ?d183
                case d180 => exact ix_any
                case d181 => exact (pvk 2 q_is_way_parts (by rfl) (by rfl))
                case d182 => exact pe_int
                case d183 => exact (fun _ _ => rfl)
               case d178 =>
                with_reducible refine' pe_tup ?d184
                case d184 =>
                 with_reducible refine' pa_c ?d185 ?d186 ?d187
                 case d185 => exact pe_str
                 case d186 =>
                  with_reducible refine' pa_c ?d188 ?d189 ?d190
                  case d188 => exact pe_str
                  case d189 =>
                   with_reducible refine' pa_c ?d191 ?d192 ?d193
                   case d191 => exact pe_str
                   case d192 => exact pa_nil
                   case d193 => rfl
                  case d190 => rfl
                 case d187 => rfl
               case d179 => with_unfolding_all rfl
         case d121 => exact pss_nil
        case d118 =>
         with_reducible refine' pss_cons ?d194 ?d195
         case d194 =>
          with_reducible refine' ps_if ?d196 ?d197 ?d198
          case d196 =>
           with_reducible refine' pt_cmpR ?d199 ?d200 ?d201 ?d202
           case d199 => exact (op_eqD (hu150 hr))
           case d200 => exact (pvk 1 q_is_way_word (by rfl) (by rfl))
           case d201 => exact pe_str
           case d202 => exact (nomark _)
          case d197 =>
           with_reducible refine' pss_one ?d203
           case d203 =>
            with_reducible refine' ps_ret ?d204
            case d204 =>
             with_reducible refine' pe_cmpR ?d205 ?d206 ?d207 ?d208
             case d205 => exact op_eq
             case d206 =>
              with_reducible refine' pe_callBk ?d209 ?d210 ?d211 ?d212 ?d213 ?d214 ?d215
              case d209 => exact call_lenA
              case d210 => exact q_is_way_len
              case d211 => exact T.z_len
              case d212 => exact PySem.boot_len
              case d213 =>
               with_reducible refine' pa_c ?d216 ?d217 ?d218
               case d216 => exact (pvk 2 q_is_way_parts (by rfl) (by rfl))
               case d217 => exact pa_nil
               case d218 => rfl
              case d214 => rfl
              case d215 => rfl
             case d207 => exact pe_int
             case d208 => exact (nomark _)
          case d198 => exact pss_nil
         case d195 =>
          with_reducible refine' pss_cons ?d219 ?d220
          case d219 =>
           with_reducible refine' ps_if ?d221 ?d222 ?d223
           case d221 =>
            with_reducible refine' pt_cmpR ?d224 ?d225 ?d226 ?d227
            case d224 => exact (op_inD (hu151 hr))
            case d225 => exact (pvk 1 q_is_way_word (by rfl) (by rfl))
            case d226 =>
             with_reducible refine' pe_tup ?d228
             case d228 =>
              with_reducible refine' pa_c ?d229 ?d230 ?d231
              case d229 => exact pe_str
              case d230 =>
               with_reducible refine' pa_c ?d232 ?d233 ?d234
               case d232 => exact pe_str
               case d233 => exact pa_nil
               case d234 => rfl
              case d231 => rfl
            case d227 => with_unfolding_all rfl
           case d222 =>
            with_reducible refine' pss_one ?d235
            case d235 =>
             with_reducible refine' ps_ret ?d236
             case d236 =>
              with_reducible refine' pe_and ?d237 ?d238
              case d237 =>
               with_reducible refine' pe_cmpR ?d239 ?d240 ?d241 ?d242
               case d239 => exact op_eq
               case d240 =>
                with_reducible refine' pe_callBk ?d243 ?d244 ?d245 ?d246 ?d247 ?d248 ?d249
                case d243 => exact call_lenA
                case d244 => exact q_is_way_len
                case d245 => exact T.z_len
                case d246 => exact PySem.boot_len
                case d247 =>
                 with_reducible refine' pa_c ?d250 ?d251 ?d252
                 case d250 => exact (pvk 2 q_is_way_parts (by rfl) (by rfl))
                 case d251 => exact pa_nil
                 case d252 => rfl
                case d248 => rfl
                case d249 => rfl
               case d241 => exact pe_int
               case d242 => exact (nomark _)
              case d238 =>
               with_reducible refine' pe_and ?d253 ?d254
               case d253 =>
                with_reducible refine' pe_callk ?d255 ?d256 ?d257 ?d258 ?d259 ?d260 ?d261 ?d262 ?d263 ?d264 ?d265
                case d255 => exact G_is_way
                case d256 => exact (hr.mono (by omega))
                case d257 => exact q_is_way_is_way
                case d258 => exact T.m_is_way
                case d259 => exact T.F_is_way.kp
                case d260 => exact T.b_is_way
                case d261 => exact .nil
                case d262 => exact pass0
                case d263 =>
                 with_reducible refine' pa_c ?d266 ?d267 ?d268
                 case d266 =>
                  with_reducible refine' pe_ix ?d269 ?d270 ?d271 ?d272
                  case d269 => exact ix_any
                  case d270 => exact (pvk 2 q_is_way_parts (by rfl) (by rfl))
                  case d271 => exact pe_int
                  case d272 => exact (fun _ _ => rfl)
                 case d267 => exact pa_nil
                 case d268 => rfl
                case d264 => rfl
                case d265 => rfl
               case d254 =>
                with_reducible refine' pe_one ?d273
                case d273 =>
                 with_reducible refine' pe_callk ?d274 ?d275 ?d276 ?d277 ?d278 ?d279 ?d280 ?d281 ?d282 ?d283 ?d284
                 case d274 => exact G_is_way
                 case d275 => exact (hr.mono (by omega))
                 case d276 => exact q_is_way_is_way
                 case d277 => exact T.m_is_way
                 case d278 => exact T.F_is_way.kp
                 case d279 => exact T.b_is_way
                 case d280 => exact .nil
                 case d281 => exact pass0
                 case d282 =>
                  with_reducible refine' pa_c ?d285 ?d286 ?d287
                  case d285 =>
                   with_reducible refine' pe_ix ?d288 ?d289 ?d290 ?d291
                   case d288 => exact ix_any
                   case d289 => exact (pvk 2 q_is_way_parts (by rfl) (by rfl))
                   case d290 => exact pe_int
                   case d291 => exact (fun _ _ => rfl)
                  case d286 => exact pa_nil
                  case d287 => rfl
                 case d283 => rfl
                 case d284 => rfl
           case d223 => exact pss_nil
          case d220 =>
           with_reducible refine' pss_cons ?d292 ?d293
           case d292 =>
            with_reducible refine' ps_if ?d294 ?d295 ?d296
            case d294 =>
             with_reducible refine' pt_cmpR ?d297 ?d298 ?d299 ?d300
             case d297 => exact (op_eqD (hu150 hr))
             case d298 => exact (pvk 1 q_is_way_word (by rfl) (by rfl))
             case d299 => exact pe_str
             case d300 => exact (nomark _)
            case d295 =>
             with_reducible refine' pss_one ?d301
             case d301 =>
              with_reducible refine' ps_ret ?d302
              case d302 =>
               with_reducible refine' pe_and ?d303 ?d304
               case d303 =>
                with_reducible refine' pe_cmpR ?d305 ?d306 ?d307 ?d308
                case d305 => exact op_eq
                case d306 =>
                 with_reducible refine' pe_callBk ?d309 ?d310 ?d311 ?d312 ?d313 ?d314 ?d315
                 case d309 => exact call_lenA
                 case d310 => exact q_is_way_len
                 case d311 => exact T.z_len
                 case d312 => exact PySem.boot_len
                 case d313 =>
                  with_reducible refine' pa_c ?d316 ?d317 ?d318
                  case d316 => exact (pvk 2 q_is_way_parts (by rfl) (by rfl))
                  case d317 => exact pa_nil
                  case d318 => rfl
                 case d314 => rfl
                 case d315 => rfl
                case d307 => exact pe_int
                case d308 => exact (nomark _)
               case d304 =>
                with_reducible refine' pe_one ?d319
                case d319 =>
                 with_reducible refine' pe_callk ?d320 ?d321 ?d322 ?d323 ?d324 ?d325 ?d326 ?d327 ?d328 ?d329 ?d330
                 case d320 => exact G_is_way
                 case d321 => exact (hr.mono (by omega))
                 case d322 => exact q_is_way_is_way
                 case d323 => exact T.m_is_way
                 case d324 => exact T.F_is_way.kp
                 case d325 => exact T.b_is_way
                 case d326 => exact .nil
                 case d327 => exact pass0
                 case d328 =>
                  with_reducible refine' pa_c ?d331 ?d332 ?d333
                  case d331 =>
                   with_reducible refine' pe_ix ?d334 ?d335 ?d336 ?d337
                   case d334 => exact ix_any
                   case d335 => exact (pvk 2 q_is_way_parts (by rfl) (by rfl))
                   case d336 => exact pe_int
                   case d337 => exact (fun _ _ => rfl)
                  case d332 => exact pa_nil
                  case d333 => rfl
                 case d329 => rfl
                 case d330 => rfl
            case d296 => exact pss_nil
           case d293 =>
            with_reducible refine' pss_one ?d338
            case d338 =>
             with_reducible refine' ps_ret ?d339
             case d339 =>
              with_reducible refine' pe_and ?d340 ?d341
              case d340 =>
               with_reducible refine' pe_cmpR ?d342 ?d343 ?d344 ?d345
               case d342 => exact (op_eqD (hu150 hr))
               case d343 => exact (pvk 1 q_is_way_word (by rfl) (by rfl))
               case d344 => exact pe_str
               case d345 => exact (nomark _)
              case d341 =>
               with_reducible refine' pe_and ?d346 ?d347
               case d346 =>
                with_reducible refine' pe_cmpR ?d348 ?d349 ?d350 ?d351
                case d348 => exact op_eq
                case d349 =>
                 with_reducible refine' pe_callBk ?d352 ?d353 ?d354 ?d355 ?d356 ?d357 ?d358
                 case d352 => exact call_lenA
                 case d353 => exact q_is_way_len
                 case d354 => exact T.z_len
                 case d355 => exact PySem.boot_len
                 case d356 =>
                  with_reducible refine' pa_c ?d359 ?d360 ?d361
                  case d359 => exact (pvk 2 q_is_way_parts (by rfl) (by rfl))
                  case d360 => exact pa_nil
                  case d361 => rfl
                 case d357 => rfl
                 case d358 => rfl
                case d350 => exact pe_int
                case d351 => exact (nomark _)
               case d347 =>
                with_reducible refine' pe_and ?d362 ?d363
                case d362 =>
                 with_reducible refine' pe_callk ?d364 ?d365 ?d366 ?d367 ?d368 ?d369 ?d370 ?d371 ?d372 ?d373 ?d374
                 case d364 => exact G_are_times
                 case d365 => exact (hr.mono (by omega))
                 case d366 => exact q_is_way_are_times
                 case d367 => exact T.m_are_times
                 case d368 => exact T.F_are_times.kp
                 case d369 => exact T.b_are_times
                 case d370 => exact .nil
                 case d371 => exact pass0
                 case d372 =>
                  with_reducible refine' pa_c ?d375 ?d376 ?d377
                  case d375 =>
                   with_reducible refine' pe_ix ?d378 ?d379 ?d380 ?d381
                   case d378 => exact ix_any
                   case d379 => exact (pvk 2 q_is_way_parts (by rfl) (by rfl))
                   case d380 => exact pe_int
                   case d381 => exact (fun _ _ => rfl)
                  case d376 =>
                   with_reducible refine' pa_c ?d382 ?d383 ?d384
                   case d382 =>
                    with_reducible refine' pe_ix ?d385 ?d386 ?d387 ?d388
                    case d385 => exact ix_any
                    case d386 => exact (pvk 2 q_is_way_parts (by rfl) (by rfl))
                    case d387 => exact pe_int
                    case d388 => exact (fun _ _ => rfl)
                   case d383 => exact pa_nil
                   case d384 => rfl
                  case d377 => rfl
                 case d373 => rfl
                 case d374 => rfl
                case d363 =>
                 with_reducible refine' pe_one ?d389
                 case d389 =>
                  with_reducible refine' pe_callk ?d390 ?d391 ?d392 ?d393 ?d394 ?d395 ?d396 ?d397 ?d398 ?d399 ?d400
                  case d390 => exact G_is_way
                  case d391 => exact (hr.mono (by omega))
                  case d392 => exact q_is_way_is_way
                  case d393 => exact T.m_is_way
                  case d394 => exact T.F_is_way.kp
                  case d395 => exact T.b_is_way
                  case d396 => exact .nil
                  case d397 => exact pass0
                  case d398 =>
                   with_reducible refine' pa_c ?d401 ?d402 ?d403
                   case d401 =>
                    with_reducible refine' pe_ix ?d404 ?d405 ?d406 ?d407
                    case d404 => exact ix_any
                    case d405 => exact (pvk 2 q_is_way_parts (by rfl) (by rfl))
                    case d406 => exact pe_int
                    case d407 => exact (fun _ _ => rfl)
                   case d402 => exact pa_nil
                   case d403 => rfl
                  case d399 => rfl
                  case d400 => rfl
    have no : ∀ H', Same H H' → isWayF (n + 1) d = false → Q (.bl false) H' := fun H' sm e => by
      have q := k H' sm
      rwa [e] at q
    cases d with
    | non => cases (show v = .non from hv); walk_at "w"; exact no _ (Same.refl _) rfl
    | bl b => cases (show v = .bl b from hv); walk_at "w"; exact no _ (Same.refl _) rfl
    | int b => cases (show v = .int b from hv); walk_at "w"; exact no _ (Same.refl _) rfl
    | str b => cases (show v = .str b from hv); walk_at "w"; exact no _ (Same.refl _) rfl
    | lst ds => obtain ⟨a, xs, rfl, e, _⟩ := hv; walk_at "w"; exact no _ (Same.refl _) rfl
    | tup ds =>
      obtain ⟨a, xs, rfl, e, hs⟩ := hv
      cases ds with
      | nil =>
        cases (show xs = [] from hs)
        walk_at "w"
        refine v_iteD (fun _ => ?_) (fun h => absurd rfl h)
        walk_at "w"
        exact no _ (Same.refl _) rfl
      | cons w ps =>
        obtain ⟨x, r, rfl, hw, hps⟩ := hs
        have hlr := hps.length
        have hsh' : w.short = true ∧ L2.D.shorts ps = true := by simpa [L2.D.short, L2.D.shorts] using hsh
        have hdp' : w.deep ≤ 99 ∧ L2.D.deeps ps ≤ 99 := by simp [L2.D.deep, L2.D.deeps] at hdp; omega
        have hn' : L2.D.deeps ps < n := by simp [L2.D.deep, L2.D.deeps] at hn; omega
        walk_at "w"
        refine v_iteD (fun h => absurd h (by simp; omega)) (fun _ => ?_)
        walk_at "w"
        refine v_ixT e (at0 x r) ?_
        walk_at "w"
        refine v_slT e tail_not_whole fun p hp => ?_
        rw [cut_tail]
        have s1 : Same H (upd H p (.tup r)) := same_new hp _
        have hp1 : upd H p (.tup r) p = some (.tup r) := upd_same
        generalize upd H p (.tup r) = H1 at s1 hp1 ⊢
        have hw1 := hw.same s1
        have hps1 := hps.same s1
        clear hw hps e
        have fin : ∀ {H'} {b : Bool}, Same H1 H' → isWayF (n + 1) (.tup (w :: ps)) = b → Q (.bl b) H' := fun sm e => by
          have q := k _ (s1.trans sm)
          rwa [e] at q
        have ef := wayF_eq n w ps
        walk_at "w"
        refine v_eqD hw1 (d' := dS "step") rfl (by omega) ?_
        walk_at "w"
        refine v_ite (fun e1 => ?_) (fun e1 => ?_)
        · rw [if_pos e1] at ef
          walk_at "w"
          refine v_iteD (fun h => ?_) (fun h => ?_)
          · obtain ⟨a, b, rfl⟩ := len2 (show ps.length = 2 by omega)
            obtain ⟨y, r2, rfl, hy, z, r3, rfl, hz, hr3⟩ := hps1
            cases (show r3 = [] from hr3)
            have sh2 : a.short = true ∧ b.short = true := by simpa [L2.D.shorts] using hsh'.2
            have dp2 : a.deep ≤ 99 ∧ b.deep ≤ 99 := by simp [L2.D.deeps] at hdp'; omega
            replace ef : isWayF (n + 1) (.tup [w, a, b]) = (kindD a && in3w b) := ef
            walk_at "w"
            refine v_orSh (R := fun q H' => q = kindD a ∧ Same H1 H') ?_ ?_ ?_
            · rintro q H2 ⟨rfl, sm⟩
              walk_at "w"
              refine v_ite (fun e2 => ?_) (fun e2 => ?_)
              · have hz2 := hz.same sm
                have hp2 := sm _ _ hp1
                walk_at "w"
                refine ⟨small (by simp), fun p3 hp3 => ?_⟩
                have s3 : Same H2 (upd H2 p3 (.tup [V.str (Str.ofString "forth"), V.str (Str.ofString "back"), V.str (Str.ofString "either")])) := same_new hp3 _
                refine v_inD (ds := [dS "forth", dS "back", dS "either"]) (.inr upd_same) ⟨_, _, rfl, rfl, _, _, rfl, rfl, _, _, rfl, rfl, rfl⟩ (hz2.same s3) (by simp [L2.D.deeps, L2.D.deep]) ?_
                refine fin (sm.trans s3) ?_
                rw [ef, e2, Bool.true_and]
                rfl
              · refine fin sm ?_
                rw [ef, e2, Bool.false_and]
            · intro h0
              have : a = .non := (rep_non hy).mp (decide_eq_true h0)
              subst this
              exact ⟨rfl, Same.refl _⟩
            · intro h0 rest
              have na : a ≠ .non := fun e => h0 (of_decide_eq_true ((rep_non hy).mpr e))
              have ka : kindD a = isNameD a := by cases a <;> first | rfl | exact absurd rfl na
              walk_at "w"
              refine ⟨y, rfl, rep_thing hy sh2.1, fun H4 sm => ?_⟩
              exact rest _ _ ⟨by rw [ka, rep_name hy], sm⟩
          · refine fin (Same.refl _) ?_
            rw [ef, two_no (by omega)]
        rw [if_neg (by rw [e1]; exact Bool.false_ne_true)] at ef
        walk_at "w"
        refine v_eqD hw1 (d' := dS "empty") rfl (by omega) ?_
        walk_at "w"
        refine v_ite (fun e2 => ?_) (fun e2 => ?_)
        · walk_at "w"
          refine fin (Same.refl _) ?_
          rw [ef, if_pos e2]
          exact decide_eq_decide.mpr (by omega)
        rw [if_neg (by rw [e2]; exact Bool.false_ne_true)] at ef
        walk_at "w"
        refine ⟨small (by simp), fun p5 hp5 => ?_⟩
        have s5 : Same H1 (upd H1 p5 (.tup [V.str (Str.ofString "then"), V.str (Str.ofString "or")])) := same_new hp5 _
        refine v_inD (ds := [dS "then", dS "or"]) (.inr upd_same) ⟨_, _, rfl, rfl, _, _, rfl, rfl, rfl⟩ (hw1.same s5) (by simp [L2.D.deeps, L2.D.deep]) ?_
        show ∃ k, V.bl (in2w w) = V.bl k ∧ _
        generalize upd H1 p5 (.tup [V.str (Str.ofString "then"), V.str (Str.ofString "or")]) = H5 at s5 ⊢
        have hw5 := hw1.same s5
        have hps5 := hps1.same s5
        have hp55 := s5 _ _ hp1
        walk_at "w"
        refine v_ite (fun e4 => ?_) (fun e4 => ?_)
        · rw [if_pos e4] at ef
          walk_at "w"
          refine v_iteD (fun h => ?_) (fun h => ?_)
          · obtain ⟨a, b, rfl⟩ := len2 (show ps.length = 2 by omega)
            obtain ⟨y, r2, rfl, hy, z, r3, rfl, hz, hr3⟩ := hps5
            cases (show r3 = [] from hr3)
            have sh2 : a.short = true ∧ b.short = true := by simpa [L2.D.shorts] using hsh'.2
            have dp2 : a.deep < n ∧ b.deep < n ∧ a.deep ≤ 100 ∧ b.deep ≤ 100 := by simp [L2.D.deeps] at hn' hdp'; omega
            walk_at "w"
            refine ⟨y, a, rfl, hy, sh2.1, dp2.2.2.1, dp2.1, fun H6 sm => ?_⟩
            walk_at "w"
            refine v_ite (fun e5 => ?_) (fun e5 => ?_)
            · have hz6 := hz.same sm
              have hp6 := sm _ _ hp55
              walk_at "w"
              refine ⟨z, b, rfl, hz6, sh2.2, dp2.2.2.2, dp2.2.1, fun H7 sm7 => ?_⟩
              refine fin (s5.trans (sm.trans sm7)) ?_
              rw [ef]; show (isWayF n a && isWayF n b) = _; rw [e5, Bool.true_and]
            · refine fin (s5.trans sm) ?_
              rw [ef]; show (isWayF n a && isWayF n b) = _; rw [e5, Bool.false_and]
          · refine fin s5 ?_
            rw [ef, two_no (by omega)]
        rw [if_neg (by rw [e4]; exact Bool.false_ne_true)] at ef
        walk_at "w"
        refine v_eqD hw5 (d' := dS "again") rfl (by omega) ?_
        walk_at "w"
        refine v_ite (fun e5 => ?_) (fun e5 => ?_)
        · rw [if_pos e5] at ef
          walk_at "w"
          refine v_iteD (fun h => ?_) (fun h => ?_)
          · obtain ⟨a, rfl⟩ := len1 (show ps.length = 1 by omega)
            obtain ⟨y, r2, rfl, hy, hr2⟩ := hps5
            cases (show r2 = [] from hr2)
            have sh1 : a.short = true := by simpa [L2.D.shorts] using hsh'.2
            have dp1 : a.deep < n ∧ a.deep ≤ 100 := by simp [L2.D.deeps] at hn' hdp'; omega
            walk_at "w"
            refine ⟨y, a, rfl, hy, sh1, dp1.2, dp1.1, fun H6 sm => ?_⟩
            exact fin (s5.trans sm) ef
          · refine fin s5 ?_
            rw [ef, one_no (by omega)]
        rw [if_neg (by rw [e5]; exact Bool.false_ne_true)] at ef
        walk_at "w"
        refine v_eqD hw5 (d' := dS "many") rfl (by omega) ?_
        walk_at "w"
        refine v_ite (fun e6 => ?_) (fun e6 => ?_)
        · rw [e6, Bool.true_and] at ef
          walk_at "w"
          refine v_iteD (fun h => ?_) (fun h => ?_)
          · obtain ⟨a, b, c, rfl⟩ := len3 (show ps.length = 3 by omega)
            obtain ⟨y, r2, rfl, hy, z, r3, rfl, hz, u, r4, rfl, hu, hr4⟩ := hps5
            cases (show r4 = [] from hr4)
            have sh3 : a.short = true ∧ b.short = true ∧ c.short = true := by simpa [L2.D.shorts] using hsh'.2
            have dp1 : a.deep < n ∧ a.deep ≤ 100 := by simp [L2.D.deeps] at hn' hdp'; omega
            replace ef : isWayF (n + 1) (.tup [w, a, b, c]) = (timesD b c && isWayF n a) := ef
            walk_at "w"
            refine ⟨z, u, rfl, rep_thing hz sh3.2.1, rep_thing hu sh3.2.2, ?_⟩
            rw [rep_times hz hu]
            walk_at "w"
            refine v_ite (fun e7 => ?_) (fun e7 => ?_)
            · walk_at "w"
              refine ⟨y, a, rfl, hy, sh3.1, dp1.2, dp1.1, fun H6 sm => ?_⟩
              exact fin (s5.trans sm) (by rw [ef, e7, Bool.true_and])
            · refine fin s5 ?_
              rw [ef, e7, Bool.false_and]
          · refine fin s5 ?_
            rw [ef, three_no (by omega)]
        · refine fin s5 ?_
          rw [ef, e6, Bool.false_and]
end
end K14

set_option Elab.async false
set_option linter.all false
set_option maxRecDepth 100000
set_option maxHeartbeats 8000000
namespace K14
open PySem L2
local macro_rules | `(tactic| walk_at "as") => `(tactic| with_reducible assumption)
local macro_rules | `(tactic| walk_at "hand") => `(tactic| first | walk_at "as" | (with_reducible refine' Hand.new ?hdx ?hdy; (case hdy => walk_at "as"); (case hdx => walk_at "hand")))
local macro_rules | `(tactic| walk_at "same") => `(tactic| first | with_reducible exact Same.refl _ | walk_at "as" | (with_reducible refine' Same.trans ?smx (same_new ?smy _); (case smy => walk_at "as"); (case smx => walk_at "same")))
local macro_rules | `(tactic| walk_at "ne") => `(tactic| first | walk_at "as" | (apply Ne.symm; walk_at "as"))
local macro_rules | `(tactic| walk_at "hg") => `(tactic| first | with_reducible exact upd_same | walk_at "as" | (with_reducible refine' upd_new ?hgx ?hgy; (case hgy => walk_at "as"); (case hgx => walk_at "hg")) | (with_reducible refine' Eq.trans (upd_ne ?hgn) ?hgx; (case hgn => walk_at "ne"); (case hgx => walk_at "hg")))
local macro_rules | `(tactic| walk_at "v") => `(tactic| (with_reducible first
  | refine iteT ?_ | refine iteF ?_ | refine v_iteNT ?_ | refine v_iteNF ?_ | refine v_abs ?_ | refine v_seq ?_ | refine v_asg ?_ | refine v_ifS ?_ | refine v_ret ?_ | refine v_retN ?_ | refine v_next ?_ | refine v_break ?_ | refine v_cont ?_ | refine v_drop ?_ | refine v_name ?_ | refine v_gsub ?_
  | refine v_C ?_ | refine v_op ?_ | refine v_un ?_ | refine v_neg ?_ | refine v_test ?_ | refine v_tB ?_ | refine v_bl ?_ | refine v_or ?_ | refine v_and ?_ | refine v_not ?_ | refine v_andV ?_ | refine v_orV ?_ | refine v_notV ?_ | refine v_if ?_ | refine v_chain ?_
  | refine v_call ?_ | refine v_CB ?_ | refine v_cons ?_ | refine v_nil ?_ | refine v_lst ?_ | refine v_tup ?_ | refine v_sl ?_ | refine v_noPart ?_ | refine v_part ?_ | refine v_int ?_ | refine v_bm ?_ | refine v_true ?_
  | refine v_rI0 ?_ | refine v_addI ?_ | refine v_ltI ?_ | refine v_leI ?_ | refine v_gtI ?_ | refine v_geI ?_ | refine v_ltS ?_ | refine v_leS ?_ | refine v_gtS ?_ | refine v_geS ?_
  | refine v_eqI ?_ | refine v_eqS ?_ | refine v_eqB ?_ | refine v_neI ?_ | refine v_neS ?_ | refine v_neB ?_ | refine v_isB ?_ | refine v_isN ?_ | refine v_comp ?_ | refine v_iR1 ?_ | refine v_iStr ?_ | refine v_iStr' ?_ | refine v_iL ?_
  | (refine' v_var ?hv ?_; (case hv => with_unfolding_all rfl))
  | (refine' v_ixL ?h1 ?h2 ?_; (case h1 => walk_at "hg"); (case h2 => with_unfolding_all rfl))
  | (refine' v_ixT ?h1 ?h2 ?_; (case h1 => walk_at "hg"); (case h2 => with_unfolding_all rfl))
  | (refine' v_setL ?h1 ?h2 ?_; (case h1 => walk_at "hg"); (case h2 => with_unfolding_all rfl))
  | (refine' v_lenL ?h1 ?_; (case h1 => walk_at "hg"))
  | (refine' v_lenT ?h1 ?_; (case h1 => walk_at "hg"))
  | (refine v_instT ?h1 ?h2 ?h3 ?_; (case h1 => (simp [tyName, instB, *]; done)); (case h2 => (simp [tyName, *]; done)); (case h3 => (simp; done)))
  | (refine v_instF ?h1 ?h2 ?h3 ?_; (case h1 => (simp [tyName, instB, *]; done)); (case h2 => (simp [tyName, *]; done)); (case h3 => (simp; done)))
  | (refine v_mulI ?h1 ?_; (case h1 => (unfold CMul; omega)))
  | (refine v_rI ?h1 ?_; (case h1 => first | omega | (unfold CDiv; omega) | (unfold CPow; omega)))))
local macro_rules | `(tactic| walk_at "v2") => `(tactic| (with_reducible first | refine v_isNotB ?_ | refine v_isNotN ?_ | refine v_disp ?_ | refine v_pcons ?_ | refine v_pnil ?_ | refine v_dget2 ?_ | refine v_iT ?_ | refine v_chain3 ?_ | refine v_inSign ?_))
local macro_rules | `(tactic| walk_at "w") => `(tactic| repeat (first | walk_at "v" | walk_at "v2"))
local macro_rules | `(tactic| walk_at "vs") => `(tactic| repeat (walk_at "v"))
section
variable {P : Program} {w : World} {K : PySem.W.Frag} {mg : Str → Option Value} {base : Heap} {t : Adr}
theorem in_letters (c : Nat) : (Str.ofString "abcdefghijklmnopqrstuvwxyz").cps.toList.contains c = low c := by
  have e : (Str.ofString "abcdefghijklmnopqrstuvwxyz").cps.toList = [97, 98, 99, 100, 101, 102, 103, 104, 105, 106, 107, 108, 109, 110, 111, 112, 113, 114, 115, 116, 117, 118, 119, 120, 121, 122] := by decide +kernel
  rw [e, Bool.eq_iff_iff, List.contains_iff_mem]
  unfold low
  rw [Bool.and_eq_true, decide_eq_true_iff, decide_eq_true_iff]
  simp only [List.mem_cons, List.not_mem_nil, or_false]
  omega
theorem ok__law_is_name (T : Txt K mg t) : FnOk P w K mg base CX0 1 t.f__law_is_name t.d__law_is_name ["_law_thing"] spName := by
  refine T.F__law_is_name.ok sc__law_is_name (fun vs H Q E h => ?_) (fun cdv A outer s H vs Q E hr h => ?_)
  · obtain ⟨v, rfl, _⟩ := h
    rfl
  obtain ⟨v, rfl, hv, k⟩ := h
  refine' ⟨_, ?der, ?_⟩
  case der =>
   conv => arg 2; whnf
   with_reducible refine' pss_cons ?d1 ?d2
   case d1 =>
    with_reducible refine' ps_setk (i := 1) ?d3 ?d4 ?d5 ?d6 ?d7 ?d8
    case d3 => exact sc__law_is_name.nd
    case d4 => exact rfl
    case d5 => exact (Or.inr q__law_is_name__law_letters.lk)
    case d6 => exact pe_str
    case d7 => rfl
    case d8 => rfl
   case d2 =>
    with_reducible refine' pss_one ?d9
    case d9 =>
     with_reducible refine' ps_ret ?d10
     case d10 =>
      with_reducible refine' pe_and ?d11 ?d12
      case d11 =>
       with_reducible refine' pe_callBk ?d13 ?d14 ?d15 ?d16 ?d17 ?d18 ?d19
       case d13 => exact call_inst
       case d14 => exact q__law_is_name_isinstance
       case d15 => exact T.z_isinstance
       case d16 => exact PyProof.Rows.boot_isinstance
       case d17 =>
        with_reducible refine' pa_c ?d20 ?d21 ?d22
        case d20 => exact (pvk 0 q__law_is_name__law_thing (by rfl) (by rfl))
        case d21 =>
         with_reducible refine' pa_c ?d23 ?d24 ?d25
         case d23 =>
          with_reducible refine' pe_bltnk (v := .ty "str") ?d26 ?d27 ?d28 ?d29
          case d26 => exact q__law_is_name_str
          case d27 => exact T.z_str
          case d28 => rfl
          case d29 => exact rfl
         case d24 => exact pa_nil
         case d25 => rfl
        case d22 => rfl
       case d18 => rfl
       case d19 => rfl
      case d12 =>
       with_reducible refine' pe_and ?d30 ?d31
       case d30 =>
        with_reducible refine' pe_chain ?d32 ?d33 ?d34 ?d35 ?d36 ?d37
        case d32 => exact op_ltA
        case d33 => exact op_ltA
        case d34 => exact pe_int
        case d35 =>
         with_reducible refine' pe_callBk ?d38 ?d39 ?d40 ?d41 ?d42 ?d43 ?d44
         case d38 => exact call_lenA
         case d39 => exact q__law_is_name_len
         case d40 => exact T.z_len
         case d41 => exact PySem.boot_len
         case d42 =>
          with_reducible refine' pa_c ?d45 ?d46 ?d47
          case d45 => exact (pvk 0 q__law_is_name__law_thing (by rfl) (by rfl))
          case d46 => exact pa_nil
          case d47 => rfl
         case d43 => rfl
         case d44 => rfl
        case d36 => exact pe_int
        case d37 => with_unfolding_all rfl
       case d31 =>
        with_reducible refine' pe_one ?d48
        case d48 =>
         with_reducible refine' pe_callBk ?d49 ?d50 ?d51 ?d52 ?d53 ?d54 ?d55
         case d49 => exact (call_all rfl)
         case d50 => exact q__law_is_name_all
         case d51 => exact T.z_all
         case d52 => exact PyProof.Rows.boot_all
         case d53 =>
          with_reducible refine' pa_c ?d56 ?d57 ?d58
          case d56 =>
           with_reducible refine' pe_comp (N' := ["_law_sign", "_law_letters"]) (ix := [none, some 1]) ?d59 ?d60 ?d61 ?d62 ?d63 ?d64 ?d65
           case d59 => exact ⟨rfl, by decide +kernel, by decide +kernel, comp_free _ _ rfl, rfl, comp_ix _ _ _ _ rfl⟩
           case d60 => exact rfl
           case d61 =>
            with_reducible refine' pi_str ?d66
            case d66 => exact (pvk 0 q__law_is_name__law_thing (by rfl) (by rfl))
           case d62 =>
            intro _ _ _ _
            exact (pgo (i := 0) ⟨by decide +kernel, by decide +kernel, by decide +kernel, by decide +kernel⟩ (show List.Nodup (["_law_sign", "_law_letters"] : List Str) from by decide +kernel) (by rfl))
           case d63 =>
            intro _ _ _ _
            exact pts_nil
           case d64 =>
            intro _ _ _ _
            with_reducible refine' pe_cmpR ?d67 ?d68 ?d69 ?d70
            case d67 => exact op_inSign
            case d68 => exact (pvk 0 (NmOk.own ⟨by decide +kernel, by decide +kernel, by decide +kernel, by decide +kernel⟩) (by rfl) (by rfl))
            case d69 => exact (pvf 1 ⟨by decide +kernel, by decide +kernel, by decide +kernel, by decide +kernel⟩ (by rfl))
            case d70 => with_unfolding_all rfl
           case d65 => (intro _; rfl)
          case d57 => exact pa_nil
          case d58 => rfl
         case d54 => rfl
         case d55 => rfl
  cases v with
  | non => walk_at "w"; exact k H (Same.refl _)
  | bl b => walk_at "w"; exact k H (Same.refl _)
  | int i => walk_at "w"; exact k H (Same.refl _)
  | ref a =>
    rcases hv with ⟨xs, hv⟩ | ⟨xs, hv⟩
    · walk_at "w"; exact k H (Same.refl _)
    · walk_at "w"; exact k H (Same.refl _)
  | str z =>
    have hz : z.length ≤ sizeLine := small (Nat.le_trans hv (by decide))
    have no : ∀ H', Same H H' → (¬ 1 ≤ z.length ∨ ¬ z.length ≤ 8) → Q (.bl false) H' := fun H' sm hn => by
      have q := k H' sm
      have e : isName (.str z) = false := by
        rw [name_str]
        rcases hn with hn | hn <;> simp [hn]
      rwa [e] at q
    walk_at "w"
    refine v_lenS hz ?_
    walk_at "w"
    refine v_iteD (fun h1 => ?_) (fun h1 => ?_)
    · walk_at "w"
      refine v_iteD (fun h2 => ?_) (fun h2 => ?_)
      · walk_at "w"
        intro D hD
        refine comp_str (fun i acc H2 => acc = (z.cps.toList.take i).map (fun c => V.bl (low c)) ∧ Same H H2) ⟨by simp, same_new hD _⟩ ?_ ?_
        · rintro i acc H2 hi ⟨rfl, sm⟩ hD2
          have hz8 : z.cps.size ≤ 100 := hv
          refine ⟨by rw [List.length_map, List.length_take]; exact small1000 (by omega), ?_⟩
          walk_at "w"
          refine ⟨kept_set rfl, ?_⟩
          walk_at "w"
          rw [in_letters]
          refine ⟨hD2, Nx.of hi ⟨?_, sm.upd_own hD⟩⟩
          rw [take_one hi, List.map_append]
          rfl
        · rintro acc H2 ⟨rfl, sm⟩ hD2
          walk_at "w"
          have hD3 : H2 D = some (.lst ((z.cps.toList.map low).map V.bl)) := by
            rw [hD2, take_all, List.map_map]
            rfl
          refine v_all hD3 ?_
          have q := k H2 sm
          have e : isName (.str z) = (z.cps.toList.map low).all id := by
            rw [name_str, List.all_map]
            have a1 : 1 ≤ z.length := by omega
            have a2 : z.length ≤ 8 := by omega
            simp [a1, a2]
          rw [e] at q
          exact q
      · exact no H (Same.refl _) (.inr (by omega))
    · walk_at "w"
      exact no H (Same.refl _) (.inl (by omega))
  | _ => exact hv.elim
def timeB : V → Bool
  | .int l => decide (0 ≤ l) && decide (l ≤ 6)
  | _ => false
def spTime : Sp := fun vs H Q _ => ∃ v, vs = [v] ∧ Thing H v ∧ Q (.bl (timeB v)) H
theorem ok__law_is_times (T : Txt K mg t) : FnOk P w K mg base CX0 1 t.f__law_is_times t.d__law_is_times ["_law_thing"] spTime := by
  refine T.F__law_is_times.ok sc__law_is_times (fun vs H Q E h => ?_) (fun cdv A outer s H vs Q E hr h => ?_)
  · obtain ⟨v, rfl, _⟩ := h
    rfl
  obtain ⟨v, rfl, hv, k⟩ := h
  refine' ⟨_, ?der, ?_⟩
  case der =>
   conv => arg 2; whnf
   with_reducible refine' pss_one ?d71
   case d71 =>
    with_reducible refine' ps_ret ?d72
    case d72 =>
     with_reducible refine' pe_and ?d73 ?d74
     case d73 =>
      with_reducible refine' pe_callBk ?d75 ?d76 ?d77 ?d78 ?d79 ?d80 ?d81
      case d75 => exact call_inst
      case d76 => exact q__law_is_times_isinstance
      case d77 => exact T.z_isinstance
      case d78 => exact PyProof.Rows.boot_isinstance
      case d79 =>
       with_reducible refine' pa_c ?d82 ?d83 ?d84
       case d82 => exact (pvk 0 q__law_is_times__law_thing (by rfl) (by rfl))
       case d83 =>
        with_reducible refine' pa_c ?d85 ?d86 ?d87
        case d85 =>
         with_reducible refine' pe_bltnk (v := .ty "int") ?d88 ?d89 ?d90 ?d91
         case d88 => exact q__law_is_times_int
         case d89 => exact T.z_int
         case d90 => rfl
         case d91 => exact rfl
        case d86 => exact pa_nil
        case d87 => rfl
       case d84 => rfl
      case d80 => rfl
      case d81 => rfl
     case d74 =>
      with_reducible refine' pe_and ?d92 ?d93
      case d92 =>
       with_reducible refine' pe_not ?d94
       case d94 =>
        with_reducible refine' pe_callBk ?d95 ?d96 ?d97 ?d98 ?d99 ?d100 ?d101
        case d95 => exact call_inst
        case d96 => exact q__law_is_times_isinstance
        case d97 => exact T.z_isinstance
        case d98 => exact PyProof.Rows.boot_isinstance
        case d99 =>
         with_reducible refine' pa_c ?d102 ?d103 ?d104
         case d102 => exact (pvk 0 q__law_is_times__law_thing (by rfl) (by rfl))
         case d103 =>
          with_reducible refine' pa_c ?d105 ?d106 ?d107
          case d105 =>
           with_reducible refine' pe_bltnk (v := .ty "bool") ?d108 ?d109 ?d110 ?d111
           case d108 => exact q__law_is_times_bool
           case d109 => exact T.z_bool
           case d110 => rfl
           case d111 => exact rfl
          case d106 => exact pa_nil
          case d107 => rfl
         case d104 => rfl
        case d100 => rfl
        case d101 => rfl
      case d93 =>
       with_reducible refine' pe_one ?d112
       case d112 =>
        with_reducible refine' pe_chain ?d113 ?d114 ?d115 ?d116 ?d117 ?d118
        case d113 => exact op_leA
        case d114 => exact op_leA
        case d115 => exact pe_int
        case d116 => exact (pvk 0 q__law_is_times__law_thing (by rfl) (by rfl))
        case d117 => exact pe_int
        case d118 => with_unfolding_all rfl
  cases v with
  | non => walk_at "w"; exact k
  | bl b => walk_at "w"; exact k
  | int i =>
    walk_at "w"
    have kk : ∀ b, b = (decide (0 ≤ i) && decide (i ≤ 6)) → Q (.bl b) H := fun b e => by rw [e]; exact k
    refine v_iteD (fun h1 => ?_) (fun h1 => ?_)
    · walk_at "w"
      exact kk _ (by rw [decide_eq_true h1]; rfl)
    · exact kk _ (by rw [decide_eq_false h1]; rfl)
  | str i => walk_at "w"; exact k
  | ref a =>
    rcases hv with ⟨xs, hv⟩ | ⟨xs, hv⟩
    · walk_at "w"; exact k
    · walk_at "w"; exact k
  | _ => exact hv.elim
def sizeOf (z : Str) : Int := if z = Str.ofString "empty" then 1 else if z = Str.ofString "then" then 3 else if z = Str.ofString "or" then 3 else if z = Str.ofString "again" then 2 else 0
theorem size_of (z : Str) : (valV (mergeK [] [(.inr (Str.ofString "empty"), V.int 1), (.inr (Str.ofString "then"), V.int 3), (.inr (Str.ofString "or"), V.int 3), (.inr (Str.ofString "again"), V.int 2)]) (Sum.inr z : Key)).getD (V.int 0) = V.int (sizeOf z) := by
  have e : mergeK [] [(.inr (Str.ofString "empty"), V.int 1), (.inr (Str.ofString "then"), V.int 3), (.inr (Str.ofString "or"), V.int 3), (.inr (Str.ofString "again"), V.int 2)] = [(.inr (Str.ofString "empty"), V.int 1), (.inr (Str.ofString "then"), V.int 3), (.inr (Str.ofString "or"), V.int 3), (.inr (Str.ofString "again"), V.int 2)] := by
    decide +kernel
  rw [e]
  have nz : ∀ {a : Str}, ¬ z = a → ¬ (Sum.inr a : Key) = Sum.inr z := fun h q => h (by cases q; rfl)
  unfold sizeOf
  by_cases h1 : z = Str.ofString "empty"
  · rw [if_pos h1, valV_pos (by rw [h1])]; rfl
  rw [if_neg h1, valV_neg (nz h1)]
  by_cases h2 : z = Str.ofString "then"
  · rw [if_pos h2, valV_pos (by rw [h2])]; rfl
  rw [if_neg h2, valV_neg (nz h2)]
  by_cases h3 : z = Str.ofString "or"
  · rw [if_pos h3, valV_pos (by rw [h3])]; rfl
  rw [if_neg h3, valV_neg (nz h3)]
  by_cases h4 : z = Str.ofString "again"
  · rw [if_pos h4, valV_pos (by rw [h4])]; rfl
  rw [if_neg h4, valV_neg (nz h4)]
  rfl
theorem size_le (z : Str) : sizeOf z ≤ 3 := by
  unfold sizeOf
  repeat' split
  all_goals omega
def timeD : D → Bool
  | .int l => decide (0 ≤ l) && decide (l ≤ 6)
  | _ => false
def isStrD : D → Bool
  | .str _ => true
  | _ => false
def leD : D → D → Bool
  | .int l, .int h => decide (l ≤ h)
  | _, _ => false
theorem rep_time {H : Hp} {d : D} {v : V} (h : Rep H d v) : timeB v = timeD d := by
  cases d with
  | non => cases (show v = .non from h); rfl
  | bl b => cases (show v = .bl b from h); rfl
  | int b => cases (show v = .int b from h); rfl
  | str b => cases (show v = .str b from h); rfl
  | tup ds => obtain ⟨a, xs, rfl, e, _⟩ := h; rfl
  | lst ds => obtain ⟨a, xs, rfl, e, _⟩ := h; rfl
theorem time_int {d : D} (h : timeD d = true) : ∃ i, d = .int i := by
  cases d <;> first | exact ⟨_, rfl⟩ | cases h
def dueF : Nat → D → Bool
  | n + 1, .tup (.str z :: ps) =>
    if z = Str.ofString "step" ∧ ps.length = 2 then two (fun a b => kindD a && (isStrD b && in3w b)) ps
    else if z = Str.ofString "many" ∧ ps.length = 3 then three (fun a b c => if (timeD b && timeD c) = true then leD b c && dueF n a else false) ps
    else decide ((ps.length : Int) + 1 = sizeOf z) && ps.all (dueF n)
  | _, _ => false
theorem dueF_eq (n : Nat) (z : Str) (ps : List D) : dueF (n + 1) (.tup (.str z :: ps)) = if z = Str.ofString "step" ∧ ps.length = 2 then two (fun a b => kindD a && (isStrD b && in3w b)) ps
    else if z = Str.ofString "many" ∧ ps.length = 3 then three (fun a b c => if (timeD b && timeD c) = true then leD b c && dueF n a else false) ps
    else decide ((ps.length : Int) + 1 = sizeOf z) && ps.all (dueF n) := rfl
theorem all_bl {α : Type} (f : α → Bool) (l : List α) : (l.map f).all id = l.all f := by
  rw [List.all_map]; rfl
theorem short_mem : ∀ {ds : List D} {d : D} {j : Nat}, L2.D.shorts ds = true → ds[j]? = some d → d.short = true
  | [], _, _, _, h => by simp at h
  | d :: ds, e, 0, hs, h => by simp [L2.D.shorts] at hs h; subst h; exact hs.1
  | d :: ds, e, j + 1, hs, h => by
    simp [L2.D.shorts] at hs
    exact short_mem (ds := ds) (j := j) hs.2 (by simpa using h)
theorem v_shared {c : Prop} [Decidable c] {F : Bool → Hp → Prop} {T : Hp → (Bool → Hp → Prop) → Prop} {H : Hp} (R : Hp → Prop) (hR : ∀ H', R H' → F false H') (h1 : c → (∀ H', R H' → F false H') → T H F) (h2 : ¬ c → R H) :
    if decide c = true then T H F else F false H := v_iteD (fun h => h1 h hR) (fun h => hR _ (h2 h))
def spDue (n : Nat) : Sp := fun vs H Q _ => ∃ (v : V) (d : D), vs = [v] ∧ Rep H d v ∧ d.short = true ∧ d.deep ≤ 100 ∧ d.deep < n ∧ ∀ H', Same H H' → Q (.bl (dueF n d)) H'
theorem ok__law_due (T : Txt K mg t) : ∀ n : Nat, FnOk P w K mg base CX0 (n + 1) t.f__law_due t.d__law_due ["_law_thing"] (spDue n)
  | 0 => by
    have none : ∀ vs H Q E, ¬ spDue 0 vs H Q E := fun vs H Q E h => by
      obtain ⟨v, d, _, _, _, _, h, _⟩ := h
      exact absurd h (Nat.not_lt_zero _)
    exact ⟨fun vs H Q E h => absurd h (none vs H Q E), fun A outer s H args us vs Q E _ _ _ _ h => absurd h (none vs H Q E)⟩
  | n + 1 => by
    have G__law_due : FnOk P w K mg base CX0 (n + 1) t.f__law_due t.d__law_due ["_law_thing"] (spDue n) := ok__law_due T n
    have G__law_is_name : FnOk P w K mg base CX0 1 t.f__law_is_name t.d__law_is_name ["_law_thing"] spName := ok__law_is_name T
    have G__law_is_times : FnOk P w K mg base CX0 1 t.f__law_is_times t.d__law_is_times ["_law_thing"] spTime := ok__law_is_times T
    refine T.F__law_due.ok sc__law_due (fun vs H Q E h => ?_) (fun cdv A outer s H vs Q E hr h => ?_)
    · obtain ⟨v, d, rfl, _⟩ := h
      rfl
    obtain ⟨v, d, rfl, hv, hsh, hdp, hn, k⟩ := h
    refine' ⟨_, ?der, ?_⟩
    case der =>
     conv => arg 2; whnf
     with_reducible refine' pss_cons ?d119 ?d120
     case d119 =>
      with_reducible refine' ps_if ?d121 ?d122 ?d123
      case d121 =>
       with_reducible refine' PW.pt ?d124
       case d124 =>
        with_reducible refine' pw_or ?d125 ?d126
        case d125 =>
         with_reducible refine' pt_not ?d127
         case d127 =>
          with_reducible refine' pt_val ?d128 ?d129
          case d128 =>
           with_reducible refine' pe_callBk ?d130 ?d131 ?d132 ?d133 ?d134 ?d135 ?d136
           case d130 => exact call_inst
           case d131 => exact q__law_due_isinstance
           case d132 => exact T.z_isinstance
           case d133 => exact PyProof.Rows.boot_isinstance
           case d134 =>
            with_reducible refine' pa_c ?d137 ?d138 ?d139
            case d137 => exact (pvk 0 q__law_due__law_thing (by rfl) (by rfl))
            case d138 =>
             with_reducible refine' pa_c ?d140 ?d141 ?d142
             case d140 =>
              with_reducible refine' pe_bltnk (v := .ty "tuple") ?d143 ?d144 ?d145 ?d146
              case d143 => exact q__law_due_tuple
              case d144 => exact T.z_tuple
              case d145 => rfl
              case d146 => exact rfl
             case d141 => exact pa_nil
             case d142 => rfl
            case d139 => rfl
           case d135 => rfl
           case d136 => rfl
          case d129 => (intro _; rfl)
        case d126 =>
         with_reducible refine' pw_or ?d147 ?d148
         case d147 =>
          with_reducible refine' pt_cmpR ?d149 ?d150 ?d151 ?d152
          case d149 => exact op_eq
          case d150 =>
           with_reducible refine' pe_callBk ?d153 ?d154 ?d155 ?d156 ?d157 ?d158 ?d159
           case d153 => exact call_lenA
           case d154 => exact q__law_due_len
           case d155 => exact T.z_len
           case d156 => exact PySem.boot_len
           case d157 =>
            with_reducible refine' pa_c ?d160 ?d161 ?d162
            case d160 => exact (pvk 0 q__law_due__law_thing (by rfl) (by rfl))
            case d161 => exact pa_nil
            case d162 => rfl
           case d158 => rfl
           case d159 => rfl
          case d151 => exact pe_int
          case d152 => exact (nomark _)
         case d148 =>
          with_reducible refine' pw_or1 ?d163
          case d163 =>
           with_reducible refine' pt_not ?d164
           case d164 =>
            with_reducible refine' pt_val ?d165 ?d166
            case d165 =>
             with_reducible refine' pe_callBk ?d167 ?d168 ?d169 ?d170 ?d171 ?d172 ?d173
             case d167 => exact call_inst
             case d168 => exact q__law_due_isinstance
             case d169 => exact T.z_isinstance
             case d170 => exact PyProof.Rows.boot_isinstance
             case d171 =>
              with_reducible refine' pa_c ?d174 ?d175 ?d176
              case d174 =>
               with_reducible refine' pe_ix ?d177 ?d178 ?d179 ?d180
               case d177 => exact ix_any
               case d178 => exact (pvk 0 q__law_due__law_thing (by rfl) (by rfl))
               case d179 => exact pe_int
               case d180 => exact (fun _ _ => rfl)
              case d175 =>
               with_reducible refine' pa_c ?d181 ?d182 ?d183
               case d181 =>
                with_reducible refine' pe_bltnk (v := .ty "str") ?d184 ?d185 ?d186 ?d187
                case d184 => exact q__law_due_str
                case d185 => exact T.z_str
                case d186 => rfl
                case d187 => exact rfl
               case d182 => exact pa_nil
               case d183 => rfl
              case d176 => rfl
             case d172 => rfl
             case d173 => rfl
            case d166 => (intro _; rfl)
      case d122 =>
       with_reducible refine' pss_one ?d188
       case d188 =>
        with_reducible refine' ps_ret ?d189
        case d189 => exact pe_bl
      case d123 => exact pss_nil
     case d120 =>
      with_reducible refine' pss_cons ?d190 ?d191
      case d190 =>
       with_reducible refine' ps_if ?d192 ?d193 ?d194
       case d192 =>
        with_reducible refine' PW.pt ?d195
        case d195 =>
         with_reducible refine' pw_and ?d196 ?d197
         case d196 =>
          with_reducible refine' pt_cmpR ?d198 ?d199 ?d200 ?d201
          case d198 => exact op_eq
          case d199 =>
           with_reducible refine' pe_ix ?d202 ?d203 ?d204 ?d205
           case d202 => exact ix_any
           case d203 => exact (pvk 0 q__law_due__law_thing (by rfl) (by rfl))
           case d204 => exact pe_int
           case d205 => exact (fun _ _ => rfl)
          case d200 => exact pe_str
          case d201 => exact (nomark _)
         case d197 =>
          with_reducible refine' pw_and1 ?d206
          case d206 =>
           with_reducible refine' pt_cmpR ?d207 ?d208 ?d209 ?d210
           case d207 => exact op_eq
           case d208 =>
            with_reducible refine' pe_callBk ?d211 ?d212 ?d213 ?d214 ?d215 ?d216 ?d217
            case d211 => exact call_lenA
            case d212 => exact q__law_due_len
            case d213 => exact T.z_len
            case d214 => exact PySem.boot_len
            case d215 =>
             with_reducible refine' pa_c ?d218 ?d219 ?d220
             case d218 => exact (pvk 0 q__law_due__law_thing (by rfl) (by rfl))
             case d219 => exact pa_nil
             case d220 => rfl
            case d216 => rfl
            case d217 => rfl
           case d209 => exact pe_int
           case d210 => exact (nomark _)
       case d193 =>
        with_reducible refine' pss_cons ?d221 ?d222
        case d221 =>
         with_reducible refine' ps_setk (i := 1) ?d223 ?d224 ?d225 ?d226 ?d227 ?d228
         case d223 => exact sc__law_due.nd
         case d224 => exact rfl
         case d225 => exact (Or.inl q__law_due__law_fine.lk)
         case d226 =>
          with_reducible refine' pe_or ?d229 ?d230
          case d229 =>
           with_reducible refine' pe_cmpR ?d231 ?d232 ?d233 ?d234
           case d231 => exact op_isA
           case d232 =>
            with_reducible refine' pe_ix ?d235 ?d236 ?d237 ?d238
            case d235 => exact ix_any
            case d236 => exact (pvk 0 q__law_due__law_thing (by rfl) (by rfl))
            case d237 => exact pe_int
            case d238 => exact (fun _ _ => rfl)
           case d233 => exact pe_non
           case d234 => exact (nomark _)
          case d230 =>
           with_reducible refine' pe_one ?d239
           case d239 =>
            with_reducible refine' pe_callk ?d240 ?d241 ?d242 ?d243 ?d244 ?d245 ?d246 ?d247 ?d248 ?d249 ?d250
            case d240 => exact G__law_is_name
            case d241 => exact (hr.mono (by omega))
            case d242 => exact q__law_due__law_is_name
            case d243 => exact T.m__law_is_name
            case d244 => exact T.F__law_is_name.kp
            case d245 => exact T.b__law_is_name
            case d246 => exact .nil
            case d247 => exact pass0
            case d248 =>
             with_reducible refine' pa_c ?d251 ?d252 ?d253
             case d251 =>
              with_reducible refine' pe_ix ?d254 ?d255 ?d256 ?d257
              case d254 => exact ix_any
              case d255 => exact (pvk 0 q__law_due__law_thing (by rfl) (by rfl))
              case d256 => exact pe_int
              case d257 => exact (fun _ _ => rfl)
             case d252 => exact pa_nil
             case d253 => rfl
            case d249 => rfl
            case d250 => rfl
         case d227 => rfl
         case d228 => rfl
        case d222 =>
         with_reducible refine' pss_one ?d258
         case d258 =>
          with_reducible refine' ps_ret ?d259
          case d259 =>
           with_reducible refine' pe_and ?d260 ?d261
           case d260 => exact (pvk 1 q__law_due__law_fine (by rfl) (by rfl))
           case d261 =>
            with_reducible refine' pe_and ?d262 ?d263
            case d262 =>
             with_reducible refine' pe_callBk ?d264 ?d265 ?d266 ?d267 ?d268 ?d269 ?d270
             case d264 => exact call_inst
             case d265 => exact q__law_due_isinstance
             case d266 => exact T.z_isinstance
             case d267 => exact PyProof.Rows.boot_isinstance
             case d268 =>
              with_reducible refine' pa_c ?d271 ?d272 ?d273
              case d271 =>
               with_reducible refine' pe_ix ?d274 ?d275 ?d276 ?d277
               case d274 => exact ix_any
               case d275 => exact (pvk 0 q__law_due__law_thing (by rfl) (by rfl))
               case d276 => exact pe_int
               case d277 => exact (fun _ _ => rfl)
              case d272 =>
               with_reducible refine' pa_c ?d278 ?d279 ?d280
               case d278 =>
                with_reducible refine' pe_bltnk (v := .ty "str") ?d281 ?d282 ?d283 ?d284
                case d281 => exact q__law_due_str
                case d282 => exact T.z_str
                case d283 => rfl
                case d284 => exact rfl
               case d279 => exact pa_nil
               case d280 => rfl
              case d273 => rfl
             case d269 => rfl
             case d270 => rfl
            case d263 =>
             with_reducible refine' pe_one ?d285
             case d285 =>
              with_reducible refine' pe_cmpR ?d286 ?d287 ?d288 ?d289
              case d286 => exact (op_inD (hu151 hr))
              case d287 =>
               with_reducible refine' pe_ix ?d290 ?d291 ?d292 ?d293
               case d290 => exact ix_any
               case d291 => exact (pvk 0 q__law_due__law_thing (by rfl) (by rfl))
               case d292 => exact pe_int
               case d293 => exact (fun _ _ => rfl)
              case d288 =>
               with_reducible refine' pe_tup ?d294
               case d294 =>
                with_reducible refine' pa_c ?d295 ?d296 ?d297
                case d295 => exact pe_str
                case d296 =>
                 with_reducible refine' pa_c ?d298 ?d299 ?d300
                 case d298 => exact pe_str
                 case d299 =>
                  with_reducible refine' pa_c ?d301 ?d302 ?d303
                  case d301 => exact pe_str
                  case d302 => exact pa_nil
                  case d303 => rfl
                 case d300 => rfl
                case d297 => rfl
              case d289 => with_unfolding_all rfl
       case d194 => exact pss_nil
      case d191 =>
       with_reducible refine' pss_cons ?d304 ?d305
       case d304 =>
        with_reducible refine' ps_if ?d306 ?d307 ?d308
        case d306 =>
         with_reducible refine' PW.pt ?d309
         case d309 =>
          with_reducible refine' pw_and ?d310 ?d311
          case d310 =>
           with_reducible refine' pt_cmpR ?d312 ?d313 ?d314 ?d315
           case d312 => exact op_eq
           case d313 =>
            with_reducible refine' pe_ix ?d316 ?d317 ?d318 ?d319
            case d316 => exact ix_any
            case d317 => exact (pvk 0 q__law_due__law_thing (by rfl) (by rfl))
            case d318 => exact pe_int
            case d319 => exact (fun _ _ => rfl)
           case d314 => exact pe_str
           case d315 => exact (nomark _)
          case d311 =>
           with_reducible refine' pw_and1 ?d320
           case d320 =>
            with_reducible refine' pt_cmpR ?d321 ?d322 ?d323 ?d324
            case d321 => exact op_eq
            case d322 =>
             with_reducible refine' pe_callBk ?d325 ?d326 ?d327 ?d328 ?d329 ?d330 ?d331
             case d325 => exact call_lenA
             case d326 => exact q__law_due_len
             case d327 => exact T.z_len
             case d328 => exact PySem.boot_len
             case d329 =>
              with_reducible refine' pa_c ?d332 ?d333 ?d334
              case d332 => exact (pvk 0 q__law_due__law_thing (by rfl) (by rfl))
              case d333 => exact pa_nil
              case d334 => rfl
             case d330 => rfl
             case d331 => rfl
            case d323 => exact pe_int
            case d324 => exact (nomark _)
        case d307 =>
         with_reducible refine' pss_cons ?d335 ?d336
         case d335 =>
          with_reducible refine' ps_if ?d337 ?d338 ?d339
          case d337 =>
           with_reducible refine' PW.pt ?d340
           case d340 =>
            with_reducible refine' pw_or ?d341 ?d342
            case d341 =>
             with_reducible refine' pt_not ?d343
             case d343 =>
              with_reducible refine' pt_val ?d344 ?d345
              case d344 =>
               with_reducible refine' pe_callk ?d346 ?d347 ?d348 ?d349 ?d350 ?d351 ?d352 ?d353 ?d354 ?d355 ?d356
               case d346 => exact G__law_is_times
               case d347 => exact (hr.mono (by omega))
               case d348 => exact q__law_due__law_is_times
               case d349 => exact T.m__law_is_times
               case d350 => exact T.F__law_is_times.kp
               case d351 => exact T.b__law_is_times
               case d352 => exact .nil
               case d353 => exact pass0
               case d354 =>
                with_reducible refine' pa_c ?d357 ?d358 ?d359
                case d357 =>
                 with_reducible refine' pe_ix ?d360 ?d361 ?d362 ?d363
                 case d360 => exact ix_any
                 case d361 => exact (pvk 0 q__law_due__law_thing (by rfl) (by rfl))
                 case d362 => exact pe_int
                 case d363 => exact (fun _ _ => rfl)
                case d358 => exact pa_nil
                case d359 => rfl
               case d355 => rfl
               case d356 => rfl
              case d345 => (intro _; rfl)
            case d342 =>
             with_reducible refine' pw_or1 ?d364
             case d364 =>
              with_reducible refine' pt_not ?d365
              case d365 =>
               with_reducible refine' pt_val ?d366 ?d367
               case d366 =>
                with_reducible refine' pe_callk ?d368 ?d369 ?d370 ?d371 ?d372 ?d373 ?d374 ?d375 ?d376 ?d377 ?d378
                case d368 => exact G__law_is_times
                case d369 => exact (hr.mono (by omega))
                case d370 => exact q__law_due__law_is_times
                case d371 => exact T.m__law_is_times
                case d372 => exact T.F__law_is_times.kp
                case d373 => exact T.b__law_is_times
                case d374 => exact .nil
                case d375 => exact pass0
                case d376 =>
                 with_reducible refine' pa_c ?d379 ?d380 ?d381
                 case d379 =>
                  with_reducible refine' pe_ix ?d382 ?d383 ?d384 ?d385
                  case d382 => exact ix_any
                  case d383 => exact (pvk 0 q__law_due__law_thing (by rfl) (by rfl))
                  case d384 => exact pe_int
                  case d385 => exact (fun _ _ => rfl)
                 case d380 => exact pa_nil
                 case d381 => rfl
                case d377 => rfl
                case d378 => rfl
               case d367 => (intro _; rfl)
          case d338 =>
           with_reducible refine' pss_one ?d386
           case d386 =>
            with_reducible refine' ps_ret ?d387
            case d387 => exact pe_bl
          case d339 => exact pss_nil
         case d336 =>
          with_reducible refine' pss_one ?d388
          case d388 =>
           with_reducible refine' ps_ret ?d389
           case d389 =>
            with_reducible refine' pe_and ?d390 ?d391
            case d390 =>
             with_reducible refine' pe_cmpR ?d392 ?d393 ?d394 ?d395
             case d392 => exact op_leA
             case d393 =>
              with_reducible refine' pe_ix ?d396 ?d397 ?d398 ?d399
              case d396 => exact ix_any
              case d397 => exact (pvk 0 q__law_due__law_thing (by rfl) (by rfl))
              case d398 => exact pe_int
              case d399 => exact (fun _ _ => rfl)
             case d394 =>
              with_reducible refine' pe_ix ?d400 ?d401 ?d402 ?d403
              case d400 => exact ix_any
              case d401 => exact (pvk 0 q__law_due__law_thing (by rfl) (by rfl))
              case d402 => exact pe_int
              case d403 => exact (fun _ _ => rfl)
             case d395 => exact (nomark _)
            case d391 =>
             with_reducible refine' pe_one ?d404
             case d404 =>
              with_reducible refine' pe_callk ?d405 ?d406 ?d407 ?d408 ?d409 ?d410 ?d411 ?d412 ?d413 ?d414 ?d415
              case d405 => exact G__law_due
              case d406 => exact (hr.mono (by omega))
              case d407 => exact q__law_due__law_due
              case d408 => exact T.m__law_due
              case d409 => exact T.F__law_due.kp
              case d410 => exact T.b__law_due
              case d411 => exact .nil
              case d412 => exact pass0
              case d413 =>
               with_reducible refine' pa_c ?d416 ?d417 ?d418
               case d416 =>
                with_reducible refine' pe_ix ?d419 ?d420 ?d421 ?d422
                case d419 => exact ix_any
                case d420 => exact (pvk 0 q__law_due__law_thing (by rfl) (by rfl))
                case d421 => exact pe_int
                case d422 => exact (fun _ _ => rfl)
               case d417 => exact pa_nil
               case d418 => rfl
              case d414 => rfl
              case d415 => rfl
        case d308 => exact pss_nil
       case d305 =>
        with_reducible refine' pss_cons ?d423 ?d424
        case d423 =>
         with_reducible refine' ps_setk (i := 2) ?d425 ?d426 ?d427 ?d428 ?d429 ?d430
         case d425 => exact sc__law_due.nd
         case d426 => exact rfl
         case d427 => exact (Or.inl q__law_due__law_size.lk)
         case d428 =>
          with_reducible refine' pe_dget2 ?d431 ?d432 ?d433 ?d434 ?d435
          case d431 => exact (hu_of hr)
          case d432 =>
           with_reducible refine' pe_disp ?d436 ?d437 ?d438 ?d439 ?d440
           case d436 =>
            with_reducible refine' pps_cons ?d441 ?d442 ?d443
            case d441 => exact pe_str
            case d442 => exact pe_int
            case d443 =>
             with_reducible refine' pps_cons ?d444 ?d445 ?d446
             case d444 => exact pe_str
             case d445 => exact pe_int
             case d446 =>
              with_reducible refine' pps_cons ?d447 ?d448 ?d449
              case d447 => exact pe_str
              case d448 => exact pe_int
              case d449 =>
               with_reducible refine' pps_cons ?d450 ?d451 ?d452
               case d450 => exact pe_str
               case d451 => exact pe_int
               case d452 => exact pps_nil
           case d437 => rfl
           case d438 => rfl
           case d439 => exact (by simp)
           case d440 => exact (by decide)
          case d433 =>
           with_reducible refine' pe_ix ?d453 ?d454 ?d455 ?d456
           case d453 => exact ix_any
           case d454 => exact (pvk 0 q__law_due__law_thing (by rfl) (by rfl))
           case d455 => exact pe_int
           case d456 => exact (fun _ _ => rfl)
          case d434 => exact pe_int
          case d435 => exact (m2_of (fun _ => rfl) rfl rfl rfl)
         case d429 => rfl
         case d430 => rfl
        case d424 =>
         with_reducible refine' pss_one ?d457
         case d457 =>
          with_reducible refine' ps_ret ?d458
          case d458 =>
           with_reducible refine' pe_and ?d459 ?d460
           case d459 =>
            with_reducible refine' pe_cmpR ?d461 ?d462 ?d463 ?d464
            case d461 => exact op_eq
            case d462 =>
             with_reducible refine' pe_callBk ?d465 ?d466 ?d467 ?d468 ?d469 ?d470 ?d471
             case d465 => exact call_lenA
             case d466 => exact q__law_due_len
             case d467 => exact T.z_len
             case d468 => exact PySem.boot_len
             case d469 =>
              with_reducible refine' pa_c ?d472 ?d473 ?d474
              case d472 => exact (pvk 0 q__law_due__law_thing (by rfl) (by rfl))
              case d473 => exact pa_nil
              case d474 => rfl
             case d470 => rfl
             case d471 => rfl
            case d463 => exact (pvk 2 q__law_due__law_size (by rfl) (by rfl))
            case d464 => exact (nomark _)
           case d460 =>
            with_reducible refine' pe_one ?d475
            case d475 =>
             with_reducible refine' pe_callBk ?d476 ?d477 ?d478 ?d479 ?d480 ?d481 ?d482
             case d476 => exact (call_all rfl)
             case d477 => exact q__law_due_all
             case d478 => exact T.z_all
             case d479 => exact PyProof.Rows.boot_all
             case d480 =>
              with_reducible refine' pa_c ?d483 ?d484 ?d485
              case d483 =>
               with_reducible refine' pe_comp (N' := ["_law_part"]) (ix := [none]) ?d486 ?d487 ?d488 ?d489 ?d490 ?d491 ?d492
               case d486 => exact ⟨rfl, by decide +kernel, by decide +kernel, comp_free _ _ rfl, rfl, comp_ix _ _ _ _ rfl⟩
               case d487 => exact rfl
               case d488 =>
                with_reducible refine' pi_tup ?d493
                case d493 =>
                 with_reducible refine' pe_slice ?d494 ?d495 ?d496 ?d497
                 case d494 => exact sl_tup
                 case d495 => exact (pvk 0 q__law_due__law_thing (by rfl) (by rfl))
                 case d496 =>
                  with_reducible refine' po_some ?d498
                  case d498 => exact pe_int
                 case d497 => exact po_none
               case d489 =>
                intro _ _ _ _
                exact (pgo (i := 0) ⟨by decide +kernel, by decide +kernel, by decide +kernel, by decide +kernel⟩ (show List.Nodup (["_law_part"] : List Str) from by decide +kernel) (by rfl))
               case d490 =>
                intro _ _ _ _
                exact pts_nil
               case d491 =>
                intro _ _ _ _
                with_reducible refine' pe_callk ?d499 ?d500 ?d501 ?d502 ?d503 ?d504 ?d505 ?d506 ?d507 ?d508 ?d509
                case d499 => exact G__law_due
                case d500 => exact (hr.mono (by omega))
                case d501 => exact (NmOk.glob ⟨by decide +kernel, by decide +kernel, by decide +kernel, by decide +kernel⟩)
                case d502 => exact T.m__law_due
                case d503 => exact T.F__law_due.kp
                case d504 => exact T.b__law_due
                case d505 => exact .nil
                case d506 => exact pass0
                case d507 =>
                 with_reducible refine' pa_c ?d510 ?d511 ?d512
                 case d510 => exact (pvk 0 (NmOk.own ⟨by decide +kernel, by decide +kernel, by decide +kernel, by decide +kernel⟩) (by rfl) (by rfl))
                 case d511 => exact pa_nil
                 case d512 => rfl
                case d508 => rfl
                case d509 => rfl
               case d492 => (intro _; rfl)
              case d484 => exact pa_nil
              case d485 => rfl
             case d481 => rfl
             case d482 => rfl
    have no : ∀ H', Same H H' → dueF (n + 1) d = false → Q (.bl false) H' := fun H' sm e => by
      have q := k H' sm
      rwa [e] at q
    cases d with
    | non => cases (show v = .non from hv); walk_at "w"; exact no _ (Same.refl _) rfl
    | bl b => cases (show v = .bl b from hv); walk_at "w"; exact no _ (Same.refl _) rfl
    | int b => cases (show v = .int b from hv); walk_at "w"; exact no _ (Same.refl _) rfl
    | str b => cases (show v = .str b from hv); walk_at "w"; exact no _ (Same.refl _) rfl
    | lst ds => obtain ⟨a, xs, rfl, e, _⟩ := hv; walk_at "w"; exact no _ (Same.refl _) rfl
    | tup ds =>
      obtain ⟨a, xs, rfl, e, hs⟩ := hv
      cases ds with
      | nil =>
        cases (show xs = [] from hs)
        walk_at "w"
        refine v_iteD (fun _ => ?_) (fun h => absurd rfl h)
        walk_at "w"
        exact no _ (Same.refl _) rfl
      | cons w ps =>
        obtain ⟨x, r, rfl, hw, hps⟩ := hs
        have hlr := hps.length
        walk_at "w"
        refine v_iteD (fun h => absurd h (by simp; omega)) (fun _ => ?_)
        walk_at "w"
        refine v_ixT e (at0 x r) ?_
        walk_at "w"
        cases w with
        | non => cases (show x = .non from hw); walk_at "w"; exact no _ (Same.refl _) rfl
        | bl b => cases (show x = .bl b from hw); walk_at "w"; exact no _ (Same.refl _) rfl
        | int b => cases (show x = .int b from hw); walk_at "w"; exact no _ (Same.refl _) rfl
        | lst ds => obtain ⟨a2, xs2, rfl, e2, _⟩ := hw; walk_at "w"; exact no _ (Same.refl _) rfl
        | tup ds => obtain ⟨a2, xs2, rfl, e2, _⟩ := hw; walk_at "w"; exact no _ (Same.refl _) rfl
        | str z =>
          cases (show x = .str z from hw)
          have hsp : L2.D.shorts ps = true := by
            have q : L2.D.shorts (L2.D.str z :: ps) = true := hsh
            simp [L2.D.shorts] at q
            exact q.2
          have hdp' : L2.D.deeps ps ≤ 99 := by simp [L2.D.deep, L2.D.deeps] at hdp; omega
          have hn' : L2.D.deeps ps < n := by simp [L2.D.deep, L2.D.deeps] at hn; omega
          have ef := dueF_eq n z ps
          have fin : ∀ {H'} {b : Bool}, Same H H' → dueF (n + 1) (.tup (.str z :: ps)) = b → Q (.bl b) H' := fun sm e => by
            have q := k _ sm
            rwa [e] at q
          walk_at "w"
          refine v_ixT e (at0 _ r) ?_
          walk_at "w"
          refine v_shared (R := fun H' => H' = H ∧ ¬ (z = Str.ofString "step" ∧ ps.length = 2)) ?_ ?_ ?_
          · rintro H' ⟨rfl, h1⟩
            rw [if_neg h1] at ef
            walk_at "w"
            refine v_ixT e (at0 _ r) ?_
            walk_at "w"
            refine v_shared (R := fun H2 => H2 = H' ∧ ¬ (z = Str.ofString "many" ∧ ps.length = 3)) ?_ ?_ ?_
            · rintro H2 ⟨rfl, h2⟩
              rw [if_neg h2] at ef
              walk_at "w"
              intro p5 hp5
              have s5 : Same H2 (upd H2 p5 (.dK [])) := same_new hp5 _
              walk_at "w"
              refine ⟨upd_same, [(.inr (Str.ofString "empty"), .int 1), (.inr (Str.ofString "then"), .int 3), (.inr (Str.ofString "or"), .int 3), (.inr (Str.ofString "again"), .int 2)], rfl, by decide, p5, rfl, ?_, ?_⟩
              · exact .inl ⟨_, .inl upd_same⟩
              rw [upd_upd]
              have s6 : Same H2 (upd H2 p5 (.dK (mergeK [] [(.inr (Str.ofString "empty"), .int 1), (.inr (Str.ofString "then"), .int 3), (.inr (Str.ofString "or"), .int 3), (.inr (Str.ofString "again"), .int 2)]))) := same_new hp5 _
              have hd6 : upd H2 p5 (.dK (mergeK [] [(.inr (Str.ofString "empty"), .int 1), (.inr (Str.ofString "then"), .int 3), (.inr (Str.ofString "or"), .int 3), (.inr (Str.ofString "again"), .int 2)])) p5 = some (.dK _) := upd_same
              generalize upd H2 p5 (.dK (mergeK [] [(.inr (Str.ofString "empty"), .int 1), (.inr (Str.ofString "then"), .int 3), (.inr (Str.ofString "or"), .int 3), (.inr (Str.ofString "again"), .int 2)])) = H6 at s6 hd6 ⊢
              have e6 := s6 _ _ e
              have hps6 := hps.same s6
              walk_at "w"
              refine v_ixT e6 (at0 _ r) ?_
              walk_at "w"
              refine ⟨_, DGet.k (k := Sum.inr z) hd6, ?_⟩
              rw [size_of]
              walk_at "w"
              refine v_iteD (fun h => ?_) (fun h => ?_)
              · have h' : (ps.length : Int) + 1 = sizeOf z := by rw [hlr]; simpa using h
                have hsz := size_le z
                rw [decide_eq_true h', Bool.true_and] at ef
                walk_at "w"
                refine v_slT e6 tail_not_whole fun p hp => ?_
                rw [cut_tail]
                have s7 : Same H6 (upd H6 p (.tup r)) := same_new hp _
                have hp7 : upd H6 p (.tup r) p = some (.tup r) := upd_same
                generalize upd H6 p (.tup r) = H7 at s7 hp7 ⊢
                have hps7 := hps6.same s7
                have sA := s6.trans s7
                refine v_iL' ⟨r, SqT.of hp7⟩ fun D0 hD0 => ?_
                refine comp_tup (fun i acc H2 => acc = (ps.take i).map (fun d => V.bl (dueF n d)) ∧ Same H7 H2) ⟨rfl, same_new hD0 _⟩ (fun i acc H2 q => SqT.of (q.2 _ _ hp7)) ?_ ?_
                · rintro i acc H2 hi ⟨rfl, sm⟩ hD2
                  refine ⟨by rw [List.length_map, List.length_take]; exact small1000 (by omega), ?_⟩
                  have hi' : i < ps.length := by omega
                  obtain ⟨y, ey, hy⟩ := Reps.get' (hps7.same sm) (List.getElem?_eq_getElem hi')
                  have eg : r.getD i .non = y := by rw [List.getD_eq_getElem?_getD, ey]; rfl
                  have dm := deep_mem (List.getElem?_eq_getElem hi')
                  have sh := short_mem hsp (List.getElem?_eq_getElem hi')
                  rw [eg]
                  walk_at "w"
                  refine ⟨kept_set rfl, ?_⟩
                  walk_at "w"
                  refine ⟨y, ps[i], rfl, hy, sh, by omega, by omega, fun H4 sm4 => ?_⟩
                  refine ⟨sm4 _ _ hD2, Nx.of hi ⟨?_, (sm.trans sm4).upd_own hD0⟩⟩
                  rw [List.take_succ, List.getElem?_eq_getElem hi', List.map_append]
                  rfl
                · rintro acc H2 ⟨rfl, sm⟩ hD2
                  have hD3 : H2 D0 = some (.lst ((ps.map (dueF n)).map V.bl)) := by
                    rw [hD2, ← hlr, List.take_length, List.map_map]; rfl
                  walk_at "w"
                  refine v_all hD3 ?_
                  refine fin (sA.trans sm) ?_
                  rw [ef, all_bl]
              · refine fin s6 ?_
                have h' : ¬ (ps.length : Int) + 1 = sizeOf z := by rw [hlr]; simpa using h
                rw [ef, decide_eq_false h', Bool.false_and]
            · intro hz rest
              walk_at "w"
              by_cases h3 : ps.length = 3
              · obtain ⟨a1, b1, c1, rfl⟩ := len3 h3
                obtain ⟨y, r2, rfl, hy, u, r3, rfl, hu, x4, r4, rfl, hx4, hr4⟩ := hps
                cases (show r4 = [] from hr4)
                rw [if_pos ⟨hz, rfl⟩] at ef
                have sh3 : a1.short = true ∧ b1.short = true ∧ c1.short = true := by simpa [L2.D.shorts] using hsp
                have dp1 : a1.deep < n ∧ a1.deep ≤ 100 := by simp [L2.D.deeps] at hn' hdp'; omega
                replace ef : dueF (n + 1) (.tup [.str z, a1, b1, c1]) = if (timeD b1 && timeD c1) = true then leD b1 c1 && dueF n a1 else false := ef
                walk_at "w"
                refine v_iteD (fun _ => ?_) (fun h => absurd (by simp) h)
                walk_at "w"
                refine ⟨u, rfl, rep_thing hu sh3.2.1, ?_⟩
                rw [rep_time hu]
                walk_at "w"
                cases hb : timeD b1 with
                | false =>
                  walk_at "w"
                  exact fin (Same.refl _) (by rw [ef, hb]; rfl)
                | true =>
                  walk_at "w"
                  refine ⟨x4, rfl, rep_thing hx4 sh3.2.2, ?_⟩
                  rw [rep_time hx4]
                  walk_at "w"
                  cases hc : timeD c1 with
                  | false =>
                    walk_at "w"
                    exact fin (Same.refl _) (by rw [ef, hc, Bool.and_false]; rfl)
                  | true =>
                    rw [hb, hc] at ef
                    obtain ⟨i, rfl⟩ := time_int hb
                    obtain ⟨j, rfl⟩ := time_int hc
                    cases (show u = .int i from hu)
                    cases (show x4 = .int j from hx4)
                    replace ef : dueF (n + 1) (.tup [.str z, a1, .int i, .int j]) = (decide (i ≤ j) && dueF n a1) := ef
                    walk_at "w"
                    refine v_iteD (fun h => ?_) (fun h => ?_)
                    · walk_at "w"
                      refine ⟨y, a1, rfl, hy, sh3.1, dp1.2, dp1.1, fun H6 sm => ?_⟩
                      exact fin sm (by rw [ef, decide_eq_true h, Bool.true_and])
                    · exact fin (Same.refl _) (by rw [ef, decide_eq_false h, Bool.false_and])
              · refine v_iteD (fun h => absurd (show ps.length = 3 by simp at h; omega) h3) (fun _ => ?_)
                exact rest _ ⟨rfl, fun q => h3 q.2⟩
            · intro hz
              exact ⟨rfl, fun q => hz q.1⟩
          · intro hz rest
            walk_at "w"
            by_cases h2 : ps.length = 2
            · obtain ⟨a1, b1, rfl⟩ := len2 h2
              obtain ⟨y, r2, rfl, hy, u, r3, rfl, hu, hr3⟩ := hps
              cases (show r3 = [] from hr3)
              rw [if_pos ⟨hz, rfl⟩] at ef
              have sh2 : a1.short = true ∧ b1.short = true := by simpa [L2.D.shorts] using hsp
              replace ef : dueF (n + 1) (.tup [.str z, a1, b1]) = (kindD a1 && (isStrD b1 && in3w b1)) := ef
              walk_at "w"
              refine v_iteD (fun _ => ?_) (fun h => absurd (by simp) h)
              walk_at "w"
              refine v_orSh (R := fun q H' => q = kindD a1 ∧ Same H H') ?_ ?_ ?_
              · rintro q H2 ⟨rfl, sm⟩
                have e2 := sm _ _ e
                walk_at "w"
                refine v_ite (fun ek => ?_) (fun ek => ?_)
                · have hu2 := hu.same sm
                  walk_at "w"
                  cases b1 with
                  | str y1 =>
                    cases (show u = .str y1 from hu2)
                    walk_at "w"
                    refine ⟨small (by simp), fun p3 hp3 => ?_⟩
                    have s3 : Same H2 (upd H2 p3 (.tup [V.str (Str.ofString "forth"), V.str (Str.ofString "back"), V.str (Str.ofString "either")])) := same_new hp3 _
                    refine v_inD (ds := [dS "forth", dS "back", dS "either"]) (d := .str y1) (.inr upd_same) ⟨_, _, rfl, rfl, _, _, rfl, rfl, _, _, rfl, rfl, rfl⟩ rfl (by simp [L2.D.deeps, L2.D.deep]) ?_
                    refine fin (sm.trans s3) ?_
                    rw [ef, ek]
                    rfl
                  | non => cases (show u = .non from hu2); walk_at "w"; exact fin sm (by rw [ef, Bool.and_comm]; rfl)
                  | bl b => cases (show u = .bl b from hu2); walk_at "w"; exact fin sm (by rw [ef, Bool.and_comm]; rfl)
                  | int b => cases (show u = .int b from hu2); walk_at "w"; exact fin sm (by rw [ef, Bool.and_comm]; rfl)
                  | lst ds => obtain ⟨a2, xs2, rfl, e3, _⟩ := hu2; walk_at "w"; exact fin sm (by rw [ef, Bool.and_comm]; rfl)
                  | tup ds => obtain ⟨a2, xs2, rfl, e3, _⟩ := hu2; walk_at "w"; exact fin sm (by rw [ef, Bool.and_comm]; rfl)
                · exact fin sm (by rw [ef, ek, Bool.false_and])
              · intro h0
                have : a1 = .non := (rep_non hy).mp (decide_eq_true h0)
                subst this
                exact ⟨rfl, Same.refl _⟩
              · intro h0 rest2
                have na : a1 ≠ .non := fun e => h0 (of_decide_eq_true ((rep_non hy).mpr e))
                have ka : kindD a1 = isNameD a1 := by cases a1 <;> first | rfl | exact absurd rfl na
                walk_at "w"
                refine ⟨y, rfl, rep_thing hy sh2.1, fun H4 sm => ?_⟩
                exact rest2 _ _ ⟨by rw [ka, rep_name hy], sm⟩
            · refine v_iteD (fun h => absurd (show ps.length = 2 by simp at h; omega) h2) (fun _ => ?_)
              exact rest _ ⟨rfl, fun q => h2 q.2⟩
          · intro hz
            exact ⟨rfl, fun q => hz q.1⟩
end
end K14

set_option Elab.async false
set_option linter.all false
set_option maxRecDepth 100000
set_option maxHeartbeats 8000000
namespace K14
open PySem L2
local macro_rules | `(tactic| walk_at "as") => `(tactic| with_reducible assumption)
local macro_rules | `(tactic| walk_at "hand") => `(tactic| first | walk_at "as" | (with_reducible refine' Hand.new ?hdx ?hdy; (case hdy => walk_at "as"); (case hdx => walk_at "hand")))
local macro_rules | `(tactic| walk_at "same") => `(tactic| first | with_reducible exact Same.refl _ | walk_at "as" | (with_reducible refine' Same.trans ?smx (same_new ?smy _); (case smy => walk_at "as"); (case smx => walk_at "same")))
local macro_rules | `(tactic| walk_at "ne") => `(tactic| first | walk_at "as" | (apply Ne.symm; walk_at "as"))
local macro_rules | `(tactic| walk_at "hg") => `(tactic| first | with_reducible exact upd_same | walk_at "as" | (with_reducible refine' upd_new ?hgx ?hgy; (case hgy => walk_at "as"); (case hgx => walk_at "hg")) | (with_reducible refine' Eq.trans (upd_ne ?hgn) ?hgx; (case hgn => walk_at "ne"); (case hgx => walk_at "hg")))
local macro_rules | `(tactic| walk_at "v") => `(tactic| (with_reducible first
  | refine iteT ?_ | refine iteF ?_ | refine v_iteNT ?_ | refine v_iteNF ?_ | refine v_abs ?_ | refine v_seq ?_ | refine v_asg ?_ | refine v_ifS ?_ | refine v_ret ?_ | refine v_retN ?_ | refine v_next ?_ | refine v_break ?_ | refine v_cont ?_ | refine v_drop ?_ | refine v_name ?_ | refine v_gsub ?_
  | refine v_C ?_ | refine v_op ?_ | refine v_un ?_ | refine v_neg ?_ | refine v_test ?_ | refine v_tB ?_ | refine v_bl ?_ | refine v_or ?_ | refine v_and ?_ | refine v_not ?_ | refine v_andV ?_ | refine v_orV ?_ | refine v_notV ?_ | refine v_if ?_ | refine v_chain ?_
  | refine v_call ?_ | refine v_CB ?_ | refine v_cons ?_ | refine v_nil ?_ | refine v_lst ?_ | refine v_tup ?_ | refine v_sl ?_ | refine v_noPart ?_ | refine v_part ?_ | refine v_int ?_ | refine v_bm ?_ | refine v_true ?_
  | refine v_rI0 ?_ | refine v_addI ?_ | refine v_ltI ?_ | refine v_leI ?_ | refine v_gtI ?_ | refine v_geI ?_ | refine v_ltS ?_ | refine v_leS ?_ | refine v_gtS ?_ | refine v_geS ?_
  | refine v_eqI ?_ | refine v_eqS ?_ | refine v_eqB ?_ | refine v_neI ?_ | refine v_neS ?_ | refine v_neB ?_ | refine v_isB ?_ | refine v_isN ?_ | refine v_comp ?_ | refine v_iR1 ?_ | refine v_iStr ?_ | refine v_iStr' ?_ | refine v_iL ?_
  | (refine' v_var ?hv ?_; (case hv => with_unfolding_all rfl))
  | (refine' v_ixL ?h1 ?h2 ?_; (case h1 => walk_at "hg"); (case h2 => with_unfolding_all rfl))
  | (refine' v_ixT ?h1 ?h2 ?_; (case h1 => walk_at "hg"); (case h2 => with_unfolding_all rfl))
  | (refine' v_setL ?h1 ?h2 ?_; (case h1 => walk_at "hg"); (case h2 => with_unfolding_all rfl))
  | (refine' v_lenL ?h1 ?_; (case h1 => walk_at "hg"))
  | (refine' v_lenT ?h1 ?_; (case h1 => walk_at "hg"))
  | (refine v_instT ?h1 ?h2 ?h3 ?_; (case h1 => (simp [tyName, instB, *]; done)); (case h2 => (simp [tyName, *]; done)); (case h3 => (simp; done)))
  | (refine v_instF ?h1 ?h2 ?h3 ?_; (case h1 => (simp [tyName, instB, *]; done)); (case h2 => (simp [tyName, *]; done)); (case h3 => (simp; done)))
  | (refine v_mulI ?h1 ?_; (case h1 => (unfold CMul; omega)))
  | (refine v_rI ?h1 ?_; (case h1 => first | omega | (unfold CDiv; omega) | (unfold CPow; omega)))))
local macro_rules | `(tactic| walk_at "v2") => `(tactic| (with_reducible first | refine v_isNotB ?_ | refine v_isNotN ?_ | refine v_disp ?_ | refine v_pcons ?_ | refine v_pnil ?_ | refine v_dget2 ?_ | refine v_iT ?_ | refine v_chain3 ?_ | refine v_inSign ?_))
local macro_rules | `(tactic| walk_at "w") => `(tactic| repeat (first | walk_at "v" | walk_at "v2"))
local macro_rules | `(tactic| walk_at "vs") => `(tactic| repeat (walk_at "v"))
section
variable {P : Program} {w : World} {K : PySem.W.Frag} {mg : Str → Option Value} {base : Heap} {t : Adr}
theorem v_ifSh2 {c : Prop} [Decidable c] {t u : TS} {D : Ends} {σ : St} {H : Hp} (S : St → Hp → Prop) (hn : ∀ σ' H', S σ' H' → D.nx σ' H') (h1 : c → (∀ σ' H', S σ' H' → D.nx σ' H') → t D σ H) (h2 : ¬ c → (∀ σ' H', S σ' H' → D.nx σ' H') → u D σ H) :
    if decide c = true then t D σ H else u D σ H := v_iteD (fun h => h1 h hn) (fun h => h2 h hn)
theorem v_sh {c : Prop} [Decidable c] {F : Bool → Hp → Prop} {T : Hp → (Bool → Hp → Prop) → Prop} {H : Hp} (C : Prop) (hF : ∀ b : Bool, (b = true ↔ C) → F b H) (hc : c → C) (h : ¬ c → (∀ b : Bool, (b = true ↔ C) → F b H) → T H F) :
    if decide c = true then F true H else T H F := v_iteD (fun q => hF true ⟨fun _ => hc q, fun _ => rfl⟩) (fun q => h q hF)
theorem v_sharedB {b : Bool} {F : Bool → Hp → Prop} {T : Hp → (Bool → Hp → Prop) → Prop} {H : Hp} (R : Hp → Prop) (hR : ∀ H', R H' → F false H') (h1 : b = true → (∀ H', R H' → F false H') → T H F) (h2 : b = false → R H) :
    if b = true then T H F else F false H := v_ite (fun h => h1 h hR) (fun h => hR _ (h2 h))
theorem v_ixAny {H : Hp} {Q : VK} {p : Addr} {xs : List V} {i : Int} (e : H p = some (.lst xs)) (h0 : 0 ≤ i) (h1 : i < (xs.length : Int)) (h : ∀ v, v ∈ xs → Q v H) : rIxA (.ref p) (.int i) H Q := by
  obtain ⟨v, hv, ev⟩ := at_any h0 h1
  exact v_ixL e ev (h v hv)
theorem v_ixAnyT {H : Hp} {Q : VK} {p : Addr} {xs : List V} {i : Int} (e : H p = some (.tup xs)) (h0 : 0 ≤ i) (h1 : i < (xs.length : Int)) (h : ∀ v, v ∈ xs → Q v H) : rIxA (.ref p) (.int i) H Q := by
  obtain ⟨v, hv, ev⟩ := at_any h0 h1
  exact v_ixT e ev (h v hv)
theorem name_len {z : Str} (h : isName (.str z) = true) : z.length ≤ 100 := by
  rw [name_str] at h
  simp at h
  omega
def Names (xs : List V) : Prop := 1 ≤ xs.length ∧ xs.length ≤ 100 ∧ ∀ v ∈ xs, ∃ z, v = .str z ∧ isName (.str z) = true
def spKinds : Sp := fun vs H Q _ => ∃ (p : Addr) (c : Int), vs = [.ref p] ∧ Hd H p c ∧ c < 900000000 ∧ ∀ (l : Addr) (xs : List V) H', H' l = some (.lst xs) → Names xs → l ≠ p → Hd H' p (c + 4) → KeepBut p H H' → Q (.ref l) H'
theorem ok__law_kinds (T : Txt K mg t) : FnOk P w K mg base CX0 2 t.f__law_kinds t.d__law_kinds ["_law_hand_here"] spKinds := by
  refine T.F__law_kinds.ok sc__law_kinds (fun vs H Q E h => ?_) (fun cdv A outer s H vs Q E hr h => ?_)
  · obtain ⟨p, c, rfl, _⟩ := h
    rfl
  obtain ⟨p, c, rfl, hh, hc, k⟩ := h
  have G__law_take : FnOk P w K mg base CX0 1 t.f__law_take t.d__law_take ["_law_hand_here", "_law_many"] spTake := ok_take T
  refine' ⟨_, ?der, ?_⟩
  case der =>
   conv => arg 2; whnf
   with_reducible refine' pss_cons ?d1 ?d2
   case d1 =>
    with_reducible refine' ps_setk (i := 1) ?d3 ?d4 ?d5 ?d6 ?d7 ?d8
    case d3 => exact sc__law_kinds.nd
    case d4 => exact rfl
    case d5 => exact (Or.inl q__law_kinds__law_some.lk)
    case d6 =>
     with_reducible refine' pe_lst ?d9
     case d9 =>
      with_reducible refine' pa_c ?d10 ?d11 ?d12
      case d10 => exact pe_str
      case d11 =>
       with_reducible refine' pa_c ?d13 ?d14 ?d15
       case d13 => exact pe_str
       case d14 =>
        with_reducible refine' pa_c ?d16 ?d17 ?d18
        case d16 => exact pe_str
        case d17 =>
         with_reducible refine' pa_c ?d19 ?d20 ?d21
         case d19 => exact pe_str
         case d20 =>
          with_reducible refine' pa_c ?d22 ?d23 ?d24
          case d22 => exact pe_str
          case d23 =>
           with_reducible refine' pa_c ?d25 ?d26 ?d27
           case d25 => exact pe_str
           case d26 =>
            with_reducible refine' pa_c ?d28 ?d29 ?d30
            case d28 => exact pe_str
            case d29 =>
             with_reducible refine' pa_c ?d31 ?d32 ?d33
             case d31 => exact pe_str
             case d32 => exact pa_nil
             case d33 => rfl
            case d30 => rfl
           case d27 => rfl
          case d24 => rfl
         case d21 => rfl
        case d18 => rfl
       case d15 => rfl
      case d12 => rfl
    case d7 => rfl
    case d8 => rfl
   case d2 =>
    with_reducible refine' pss_cons ?d34 ?d35
    case d34 =>
     with_reducible refine' ps_setk (i := 2) ?d36 ?d37 ?d38 ?d39 ?d40 ?d41
     case d36 => exact sc__law_kinds.nd
     case d37 => exact rfl
     case d38 => exact (Or.inl q__law_kinds__law_first.lk)
     case d39 =>
      with_reducible refine' pe_callk ?d42 ?d43 ?d44 ?d45 ?d46 ?d47 ?d48 ?d49 ?d50 ?d51 ?d52
      case d42 => exact G__law_take
      case d43 => exact (hr.mono (by omega))
      case d44 => exact q__law_kinds__law_take
      case d45 => exact T.m__law_take
      case d46 => exact T.F__law_take.kp
      case d47 => exact T.b__law_take
      case d48 => exact .nil
      case d49 => exact pass0
      case d50 =>
       with_reducible refine' pa_c ?d53 ?d54 ?d55
       case d53 => exact (pvk 0 q__law_kinds__law_hand_here (by rfl) (by rfl))
       case d54 =>
        with_reducible refine' pa_c ?d56 ?d57 ?d58
        case d56 => exact pe_int
        case d57 => exact pa_nil
        case d58 => rfl
       case d55 => rfl
      case d51 => rfl
      case d52 => rfl
     case d40 => rfl
     case d41 => rfl
    case d35 =>
     with_reducible refine' pss_cons ?d59 ?d60
     case d59 =>
      with_reducible refine' ps_setk (i := 3) ?d61 ?d62 ?d63 ?d64 ?d65 ?d66
      case d61 => exact sc__law_kinds.nd
      case d62 => exact rfl
      case d63 => exact (Or.inl q__law_kinds__law_many.lk)
      case d64 =>
       with_reducible refine' pe_op ?d67 ?d68 ?d69
       case d67 => exact op_addA
       case d68 => exact pe_int
       case d69 =>
        with_reducible refine' pe_callk ?d70 ?d71 ?d72 ?d73 ?d74 ?d75 ?d76 ?d77 ?d78 ?d79 ?d80
        case d70 => exact G__law_take
        case d71 => exact (hr.mono (by omega))
        case d72 => exact q__law_kinds__law_take
        case d73 => exact T.m__law_take
        case d74 => exact T.F__law_take.kp
        case d75 => exact T.b__law_take
        case d76 => exact .nil
        case d77 => exact pass0
        case d78 =>
         with_reducible refine' pa_c ?d81 ?d82 ?d83
         case d81 => exact (pvk 0 q__law_kinds__law_hand_here (by rfl) (by rfl))
         case d82 =>
          with_reducible refine' pa_c ?d84 ?d85 ?d86
          case d84 => exact pe_int
          case d85 => exact pa_nil
          case d86 => rfl
         case d83 => rfl
        case d79 => rfl
        case d80 => rfl
      case d65 => rfl
      case d66 => rfl
     case d60 =>
      with_reducible refine' pss_cons ?d87 ?d88
      case d87 =>
       with_reducible refine' ps_if ?d89 ?d90 ?d91
       case d89 =>
        with_reducible refine' pt_cmpR ?d92 ?d93 ?d94 ?d95
        case d92 => exact op_eq
        case d93 =>
         with_reducible refine' pe_callk ?d96 ?d97 ?d98 ?d99 ?d100 ?d101 ?d102 ?d103 ?d104 ?d105 ?d106
         case d96 => exact G__law_take
         case d97 => exact (hr.mono (by omega))
         case d98 => exact q__law_kinds__law_take
         case d99 => exact T.m__law_take
         case d100 => exact T.F__law_take.kp
         case d101 => exact T.b__law_take
         case d102 => exact .nil
         case d103 => exact pass0
         case d104 =>
          with_reducible refine' pa_c ?d107 ?d108 ?d109
          case d107 => exact (pvk 0 q__law_kinds__law_hand_here (by rfl) (by rfl))
          case d108 =>
           with_reducible refine' pa_c ?d110 ?d111 ?d112
           case d110 => exact pe_int
           case d111 => exact pa_nil
           case d112 => rfl
          case d109 => rfl
         case d105 => rfl
         case d106 => rfl
        case d94 => exact pe_int
        case d95 => exact (nomark _)
       case d90 =>
        with_reducible refine' pss_one ?d113
        case d113 =>
         with_reducible refine' ps_setk (i := 3) ?d114 ?d115 ?d116 ?d117 ?d118 ?d119
         case d114 => exact sc__law_kinds.nd
         case d115 => exact rfl
         case d116 => exact (Or.inl q__law_kinds__law_many.lk)
         case d117 =>
          with_reducible refine' pe_op ?d120 ?d121 ?d122
          case d120 => exact op_addA
          case d121 => exact pe_int
          case d122 =>
           with_reducible refine' pe_callk ?d123 ?d124 ?d125 ?d126 ?d127 ?d128 ?d129 ?d130 ?d131 ?d132 ?d133
           case d123 => exact G__law_take
           case d124 => exact (hr.mono (by omega))
           case d125 => exact q__law_kinds__law_take
           case d126 => exact T.m__law_take
           case d127 => exact T.F__law_take.kp
           case d128 => exact T.b__law_take
           case d129 => exact .nil
           case d130 => exact pass0
           case d131 =>
            with_reducible refine' pa_c ?d134 ?d135 ?d136
            case d134 => exact (pvk 0 q__law_kinds__law_hand_here (by rfl) (by rfl))
            case d135 =>
             with_reducible refine' pa_c ?d137 ?d138 ?d139
             case d137 => exact pe_int
             case d138 => exact pa_nil
             case d139 => rfl
            case d136 => rfl
           case d132 => rfl
           case d133 => rfl
         case d118 => rfl
         case d119 => rfl
       case d91 => exact pss_nil
      case d88 =>
       with_reducible refine' pss_one ?d140
       case d140 =>
        with_reducible refine' ps_ret ?d141
        case d141 =>
         with_reducible refine' pe_slice ?d142 ?d143 ?d144 ?d145
         case d142 => exact sl_list
         case d143 =>
          with_reducible refine' pe_op ?d146 ?d147 ?d148
          case d146 => exact op_addA
          case d147 =>
           with_reducible refine' pe_slice ?d149 ?d150 ?d151 ?d152
           case d149 => exact sl_list
           case d150 => exact (pvk 1 q__law_kinds__law_some (by rfl) (by rfl))
           case d151 =>
            with_reducible refine' po_some ?d153
            case d153 => exact (pvk 2 q__law_kinds__law_first (by rfl) (by rfl))
           case d152 => exact po_none
          case d148 =>
           with_reducible refine' pe_slice ?d154 ?d155 ?d156 ?d157
           case d154 => exact sl_list
           case d155 => exact (pvk 1 q__law_kinds__law_some (by rfl) (by rfl))
           case d156 => exact po_none
           case d157 =>
            with_reducible refine' po_some ?d158
            case d158 => exact (pvk 2 q__law_kinds__law_first (by rfl) (by rfl))
         case d144 => exact po_none
         case d145 =>
          with_reducible refine' po_some ?d159
          case d159 => exact (pvk 3 q__law_kinds__law_many (by rfl) (by rfl))
  walk_at "w"
  refine ⟨small (by simp), fun l hl => ?_⟩
  have nlp : l ≠ p := hh.ne hl
  have hh0 := hh.new (o := .lst [V.str (Str.ofString "knows"), V.str (Str.ofString "a"), V.str (Str.ofString "aa"), V.str (Str.ofString "zebra"), V.str (Str.ofString "empty"), V.str (Str.ofString "quartzes"), V.str (Str.ofString "again"), V.str (Str.ofString "likes")]) hl
  have el : upd H l (.lst [V.str (Str.ofString "knows"), V.str (Str.ofString "a"), V.str (Str.ofString "aa"), V.str (Str.ofString "zebra"), V.str (Str.ofString "empty"), V.str (Str.ofString "quartzes"), V.str (Str.ofString "again"), V.str (Str.ofString "likes")]) l = some (.lst [V.str (Str.ofString "knows"), V.str (Str.ofString "a"), V.str (Str.ofString "aa"), V.str (Str.ofString "zebra"), V.str (Str.ofString "empty"), V.str (Str.ofString "quartzes"), V.str (Str.ofString "again"), V.str (Str.ofString "likes")]) := upd_same
  have kb0 : KeepBut p H (upd H l (.lst [V.str (Str.ofString "knows"), V.str (Str.ofString "a"), V.str (Str.ofString "aa"), V.str (Str.ofString "zebra"), V.str (Str.ofString "empty"), V.str (Str.ofString "quartzes"), V.str (Str.ofString "again"), V.str (Str.ofString "likes")])) := (same_new hl _).kb
  have hnm : ∀ v ∈ [V.str (Str.ofString "knows"), V.str (Str.ofString "a"), V.str (Str.ofString "aa"), V.str (Str.ofString "zebra"), V.str (Str.ofString "empty"), V.str (Str.ofString "quartzes"), V.str (Str.ofString "again"), V.str (Str.ofString "likes")], ∃ z, v = .str z ∧ isName (.str z) = true := by
    intro v hv
    have b : isName (V.str (Str.ofString "knows")) = true ∧ isName (V.str (Str.ofString "a")) = true ∧ isName (V.str (Str.ofString "aa")) = true ∧ isName (V.str (Str.ofString "zebra")) = true ∧ isName (V.str (Str.ofString "empty")) = true ∧ isName (V.str (Str.ofString "quartzes")) = true ∧ isName (V.str (Str.ofString "again")) = true ∧ isName (V.str (Str.ofString "likes")) = true := by decide +kernel
    obtain ⟨b1, b2, b3, b4, b5, b6, b7, b8⟩ := b
    simp only [List.mem_cons, List.not_mem_nil, or_false] at hv
    rcases hv with rfl | rfl | rfl | rfl | rfl | rfl | rfl | rfl <;> exact ⟨_, rfl, by assumption⟩
  have hlen : [V.str (Str.ofString "knows"), V.str (Str.ofString "a"), V.str (Str.ofString "aa"), V.str (Str.ofString "zebra"), V.str (Str.ofString "empty"), V.str (Str.ofString "quartzes"), V.str (Str.ofString "again"), V.str (Str.ofString "likes")].length = 8 := rfl
  generalize [V.str (Str.ofString "knows"), V.str (Str.ofString "a"), V.str (Str.ofString "aa"), V.str (Str.ofString "zebra"), V.str (Str.ofString "empty"), V.str (Str.ofString "quartzes"), V.str (Str.ofString "again"), V.str (Str.ofString "likes")] = xs0 at hh0 el kb0 hnm hlen ⊢
  generalize upd H l (.lst xs0) = H0 at hh0 el kb0 ⊢
  walk_at "w"
  refine use_take hh0 (by decide) (by decide) (by omega) fun r1 H1 hr10 hr11 hh1 kb1 => ?_
  walk_at "w"
  refine use_take hh1 (by decide) (by decide) (by omega) fun r2 H2 hr20 hr21 hh2 kb2 => ?_
  walk_at "w"
  refine use_take hh2 (by decide) (by decide) (by omega) fun r3 H3 hr30 hr31 hh3 kb3 => ?_
  walk_at "w"
  have el3 := kb3 _ _ (kb2 _ _ (kb1 _ _ el nlp) nlp) nlp
  have kbA := ((kb0.trans kb1).trans kb2).trans kb3
  obtain ⟨j, rfl⟩ : ∃ j : Nat, r1 = (j : Int) := ⟨r1.toNat, by omega⟩
  refine v_ifSh2 (fun σ' H' => ∃ (m : Nat) (mi : Int), mi = (m : Int) ∧ 1 ≤ m ∧ m ≤ 8 ∧ σ' = [some (.ref p), some (.ref l), some (.int j), some (.int mi)] ∧ Hd H' p (c + 4) ∧ H' l = some (.lst xs0) ∧ KeepBut p H H') ?_ ?_ ?_
  · rintro σ' H4 ⟨m, _, rfl, hm1, hm8, rfl, hh4, el4, kb4⟩
    walk_at "w"
    refine v_slL (SqL.of el4) fun p5 hp5 => ?_
    rw [cut_drop (by omega)]
    have el5 := upd_new (o := .lst (xs0.drop j)) el4 hp5
    walk_at "w"
    refine v_slL (SqL.of el5) fun p6 hp6 => ?_
    rw [cut_take (by omega)]
    walk_at "w"
    refine v_addL (upd_new upd_same hp6) upd_same (small (by simp; omega)) fun p7 hp7 => ?_
    walk_at "w"
    refine v_slL (SqL.of upd_same) fun p8 hp8 => ?_
    rw [cut_take (by simp; omega)]
    walk_at "w"
    have sA := (((same_new hp5 (.lst (xs0.drop j))).trans (same_new hp6 (.lst (xs0.take j)))).trans (same_new hp7 (.lst (xs0.drop j ++ xs0.take j)))).trans (same_new hp8 (.lst ((xs0.drop j ++ xs0.take j).take m)))
    refine k p8 _ _ upd_same ⟨by simp; omega, by simp; omega, fun v hv => ?_⟩ (Hd.ne (((hh4.new hp5).new hp6).new hp7) hp8) (hh4.same sA) (kb4.trans sA.kb)
    have hv := List.mem_of_mem_take hv
    rcases List.mem_append.mp hv with hv | hv
    · exact hnm v (List.mem_of_mem_drop hv)
    · exact hnm v (List.mem_of_mem_take hv)
  · intro _ rest
    walk_at "w"
    refine use_take hh3 (by decide) (by decide) (by omega) fun r4 H4 hr40 hr41 hh4 kb4 => ?_
    refine v_addI ?_
    refine v_name ?_
    obtain ⟨m, hm⟩ : ∃ m : Nat, 7 + r4 = (m : Int) := ⟨(7 + r4).toNat, by omega⟩
    exact rest _ _ ⟨m, _, hm, by omega, by omega, rfl, hh4.mono (by omega), kb4 _ _ el3 nlp, kbA.trans kb4⟩
  · intro _ rest
    refine v_next ?_
    obtain ⟨m, hm⟩ : ∃ m : Nat, 1 + r2 = (m : Int) := ⟨(1 + r2).toNat, by omega⟩
    exact rest _ _ ⟨m, _, hm, by omega, by omega, rfl, hh3.mono (by omega), el3, kbA⟩
mutual
def wt : D → Bool
  | .tup (.str _ :: ds) => decide (ds.length ≤ 3) && wts ds
  | .tup _ => false
  | .lst _ => false
  | _ => true
def wts : List D → Bool
  | [] => true
  | d :: ds => wt d && wts ds
end
def isW (d : D) : Prop := (∀ m, d.deep < m → isWayF m d = true) ∧ wt d = true ∧ ∃ z ds, d = .tup (.str z :: ds)
theorem isW_empty : isW (.tup [dS "empty"]) := by
  refine ⟨fun m hm => ?_, rfl, _, _, rfl⟩
  cases m with
  | zero => cases hm
  | succ m => rw [wayF_eq, if_neg (by decide +kernel), if_pos (by decide +kernel)]; rfl
theorem isW_step {x : String} {d : D} (hd : kindD d = true) (hx : x = "forth" ∨ x = "back" ∨ x = "either") : isW (.tup [dS "step", d, dS x]) := by
  have ht : wt d = true := by
    cases d with
    | tup ds => cases hd
    | lst ds => cases hd
    | _ => rfl
  refine ⟨fun m hm => ?_, by simp [wt, wts, ht], _, _, rfl⟩
  cases m with
  | zero => cases hm
  | succ m =>
    rw [wayF_eq, if_pos (by decide +kernel)]
    show (kindD d && in3w (dS x)) = true
    rw [hd]
    rcases hx with rfl | rfl | rfl <;> decide +kernel
theorem isW_again {d : D} (h : isW d) : isW (.tup [dS "again", d]) := by
  refine ⟨fun m hm => ?_, by simp [wt, wts, h.2.1], _, _, rfl⟩
  cases m with
  | zero => cases hm
  | succ m =>
    rw [wayF_eq, if_neg (by decide +kernel), if_neg (by decide +kernel), if_neg (by decide +kernel), if_pos (by decide +kernel)]
    exact h.1 m (by simp [L2.D.deep, L2.D.deeps] at hm; omega)
theorem isW_two {x : String} {d e : D} (hx : x = "then" ∨ x = "or") (h : isW d) (h2 : isW e) : isW (.tup [dS x, d, e]) := by
  refine ⟨fun m hm => ?_, by simp [wt, wts, h.2.1, h2.2.1], _, _, rfl⟩
  cases m with
  | zero => cases hm
  | succ m =>
    have : (isWayF m d && isWayF m e) = true := by
      rw [h.1 m (by simp [L2.D.deep, L2.D.deeps] at hm; omega), h2.1 m (by simp [L2.D.deep, L2.D.deeps] at hm; omega)]; rfl
    rcases hx with rfl | rfl <;> (rw [wayF_eq, if_neg (by decide +kernel), if_neg (by decide +kernel), if_pos (by decide +kernel)]; exact this)
theorem isW_many {d : D} {i j : Int} (h : isW d) (h0 : 0 ≤ i) (h1 : i ≤ j) (h2 : j ≤ 6) : isW (.tup [dS "many", d, .int i, .int j]) := by
  refine ⟨fun m hm => ?_, by simp [wt, wts, h.2.1], _, _, rfl⟩
  cases m with
  | zero => cases hm
  | succ m =>
    rw [wayF_eq, if_neg (by decide +kernel), if_neg (by decide +kernel), if_neg (by decide +kernel), if_neg (by decide +kernel), show deq (dS "many") (dS "many") = true by decide +kernel, Bool.true_and]
    show ((decide (0 ≤ i) && decide (i ≤ j) && decide (j ≤ 6)) && isWayF m d) = true
    rw [decide_eq_true h0, decide_eq_true h1, decide_eq_true h2, h.1 m (by simp [L2.D.deep, L2.D.deeps] at hm; omega)]
    rfl
def spLeaf : Sp := fun vs H Q _ => ∃ (p : Addr) (c : Int) (l : Addr) (xs : List V), vs = [.ref p, .ref l] ∧ Hd H p c ∧ c < 900000000 ∧ H l = some (.lst xs) ∧ Names xs ∧ l ≠ p ∧
  ∀ (v : V) (d : D) H', Rep H' d v → isW d → d.fin 1 → Hd H' p (c + 3) → KeepBut p H H' → Q v H'
theorem ok__law_leaf (T : Txt K mg t) : FnOk P w K mg base CX0 2 t.f__law_leaf t.d__law_leaf ["_law_hand_here", "_law_kinds_here"] spLeaf := by
  refine T.F__law_leaf.ok sc__law_leaf (fun vs H Q E h => ?_) (fun cdv A outer s H vs Q E hr h => ?_)
  · obtain ⟨p, c, l, xs, rfl, _⟩ := h
    rfl
  obtain ⟨p, c, l, xs, rfl, hh, hc, el, hnm, nlp, k⟩ := h
  have G__law_take : FnOk P w K mg base CX0 1 t.f__law_take t.d__law_take ["_law_hand_here", "_law_many"] spTake := ok_take T
  refine' ⟨_, ?der, ?_⟩
  case der =>
   conv => arg 2; whnf
   with_reducible refine' pss_cons ?d160 ?d161
   case d160 =>
    with_reducible refine' ps_setk (i := 2) ?d162 ?d163 ?d164 ?d165 ?d166 ?d167
    case d162 => exact sc__law_leaf.nd
    case d163 => exact rfl
    case d164 => exact (Or.inl q__law_leaf__law_how.lk)
    case d165 =>
     with_reducible refine' pe_callk ?d168 ?d169 ?d170 ?d171 ?d172 ?d173 ?d174 ?d175 ?d176 ?d177 ?d178
     case d168 => exact G__law_take
     case d169 => exact (hr.mono (by omega))
     case d170 => exact q__law_leaf__law_take
     case d171 => exact T.m__law_take
     case d172 => exact T.F__law_take.kp
     case d173 => exact T.b__law_take
     case d174 => exact .nil
     case d175 => exact pass0
     case d176 =>
      with_reducible refine' pa_c ?d179 ?d180 ?d181
      case d179 => exact (pvk 0 q__law_leaf__law_hand_here (by rfl) (by rfl))
      case d180 =>
       with_reducible refine' pa_c ?d182 ?d183 ?d184
       case d182 => exact pe_int
       case d183 => exact pa_nil
       case d184 => rfl
      case d181 => rfl
     case d177 => rfl
     case d178 => rfl
    case d166 => rfl
    case d167 => rfl
   case d161 =>
    with_reducible refine' pss_cons ?d185 ?d186
    case d185 =>
     with_reducible refine' ps_if ?d187 ?d188 ?d189
     case d187 =>
      with_reducible refine' pt_cmpR ?d190 ?d191 ?d192 ?d193
      case d190 => exact op_eq
      case d191 => exact (pvk 2 q__law_leaf__law_how (by rfl) (by rfl))
      case d192 => exact pe_int
      case d193 => exact (nomark _)
     case d188 =>
      with_reducible refine' pss_one ?d194
      case d194 =>
       with_reducible refine' ps_ret ?d195
       case d195 =>
        with_reducible refine' pe_tup ?d196
        case d196 =>
         with_reducible refine' pa_c ?d197 ?d198 ?d199
         case d197 => exact pe_str
         case d198 => exact pa_nil
         case d199 => rfl
     case d189 => exact pss_nil
    case d186 =>
     with_reducible refine' pss_cons ?d200 ?d201
     case d200 =>
      with_reducible refine' ps_setk (i := 3) ?d202 ?d203 ?d204 ?d205 ?d206 ?d207
      case d202 => exact sc__law_leaf.nd
      case d203 => exact rfl
      case d204 => exact (Or.inl q__law_leaf__law_kind.lk)
      case d205 =>
       with_reducible refine' pe_ix ?d208 ?d209 ?d210 ?d211
       case d208 => exact ix_any
       case d209 => exact (pvk 1 q__law_leaf__law_kinds_here (by rfl) (by rfl))
       case d210 =>
        with_reducible refine' pe_callk ?d212 ?d213 ?d214 ?d215 ?d216 ?d217 ?d218 ?d219 ?d220 ?d221 ?d222
        case d212 => exact G__law_take
        case d213 => exact (hr.mono (by omega))
        case d214 => exact q__law_leaf__law_take
        case d215 => exact T.m__law_take
        case d216 => exact T.F__law_take.kp
        case d217 => exact T.b__law_take
        case d218 => exact .nil
        case d219 => exact pass0
        case d220 =>
         with_reducible refine' pa_c ?d223 ?d224 ?d225
         case d223 => exact (pvk 0 q__law_leaf__law_hand_here (by rfl) (by rfl))
         case d224 =>
          with_reducible refine' pa_c ?d226 ?d227 ?d228
          case d226 =>
           with_reducible refine' pe_callBk ?d229 ?d230 ?d231 ?d232 ?d233 ?d234 ?d235
           case d229 => exact call_lenA
           case d230 => exact q__law_leaf_len
           case d231 => exact T.z_len
           case d232 => exact PySem.boot_len
           case d233 =>
            with_reducible refine' pa_c ?d236 ?d237 ?d238
            case d236 => exact (pvk 1 q__law_leaf__law_kinds_here (by rfl) (by rfl))
            case d237 => exact pa_nil
            case d238 => rfl
           case d234 => rfl
           case d235 => rfl
          case d227 => exact pa_nil
          case d228 => rfl
         case d225 => rfl
        case d221 => rfl
        case d222 => rfl
       case d211 => exact (fun _ _ => rfl)
      case d206 => rfl
      case d207 => rfl
     case d201 =>
      with_reducible refine' pss_cons ?d239 ?d240
      case d239 =>
       with_reducible refine' ps_if ?d241 ?d242 ?d243
       case d241 =>
        with_reducible refine' pt_cmpR ?d244 ?d245 ?d246 ?d247
        case d244 => exact op_eq
        case d245 => exact (pvk 2 q__law_leaf__law_how (by rfl) (by rfl))
        case d246 => exact pe_int
        case d247 => exact (nomark _)
       case d242 =>
        with_reducible refine' pss_one ?d248
        case d248 =>
         with_reducible refine' ps_setk (i := 3) ?d249 ?d250 ?d251 ?d252 ?d253 ?d254
         case d249 => exact sc__law_leaf.nd
         case d250 => exact rfl
         case d251 => exact (Or.inl q__law_leaf__law_kind.lk)
         case d252 => exact pe_non
         case d253 => rfl
         case d254 => rfl
       case d243 => exact pss_nil
      case d240 =>
       with_reducible refine' pss_one ?d255
       case d255 =>
        with_reducible refine' ps_ret ?d256
        case d256 =>
         with_reducible refine' pe_tup ?d257
         case d257 =>
          with_reducible refine' pa_c ?d258 ?d259 ?d260
          case d258 => exact pe_str
          case d259 =>
           with_reducible refine' pa_c ?d261 ?d262 ?d263
           case d261 => exact (pvk 3 q__law_leaf__law_kind (by rfl) (by rfl))
           case d262 =>
            with_reducible refine' pa_c ?d264 ?d265 ?d266
            case d264 =>
             with_reducible refine' pe_ix ?d267 ?d268 ?d269 ?d270
             case d267 => exact ix_any
             case d268 =>
              with_reducible refine' pe_tup ?d271
              case d271 =>
               with_reducible refine' pa_c ?d272 ?d273 ?d274
               case d272 => exact pe_str
               case d273 =>
                with_reducible refine' pa_c ?d275 ?d276 ?d277
                case d275 => exact pe_str
                case d276 =>
                 with_reducible refine' pa_c ?d278 ?d279 ?d280
                 case d278 => exact pe_str
                 case d279 =>
                  with_reducible refine' pa_c ?d281 ?d282 ?d283
                  case d281 => exact pe_str
                  case d282 => exact pa_nil
                  case d283 => rfl
                 case d280 => rfl
                case d277 => rfl
               case d274 => rfl
             case d269 =>
              with_reducible refine' pe_callk ?d284 ?d285 ?d286 ?d287 ?d288 ?d289 ?d290 ?d291 ?d292 ?d293 ?d294
              case d284 => exact G__law_take
              case d285 => exact (hr.mono (by omega))
              case d286 => exact q__law_leaf__law_take
              case d287 => exact T.m__law_take
              case d288 => exact T.F__law_take.kp
              case d289 => exact T.b__law_take
              case d290 => exact .nil
              case d291 => exact pass0
              case d292 =>
               with_reducible refine' pa_c ?d295 ?d296 ?d297
               case d295 => exact (pvk 0 q__law_leaf__law_hand_here (by rfl) (by rfl))
               case d296 =>
                with_reducible refine' pa_c ?d298 ?d299 ?d300
                case d298 => exact pe_int
                case d299 => exact pa_nil
                case d300 => rfl
               case d297 => rfl
              case d293 => rfl
              case d294 => rfl
             case d270 => exact (fun _ _ => rfl)
            case d265 => exact pa_nil
            case d266 => rfl
           case d263 => rfl
          case d260 => rfl
  walk_at "w"
  refine use_take hh (by decide) (by decide) (by omega) fun how H1 hw0 hw1 hh1 kb1 => ?_
  have el1 := kb1 _ _ el nlp
  walk_at "w"
  refine v_iteD (fun h0 => ?_) (fun h0 => ?_)
  · walk_at "w"
    refine ⟨small (by simp), fun pa hpa => ?_⟩
    exact k _ (.tup [dS "empty"]) _ ⟨pa, _, rfl, upd_same, _, _, rfl, rfl, rfl⟩ isW_empty (fin_tup (fins_cons (fin_str (by decide +kernel) _) (fins_nil _))) ((hh1.new hpa).mono (by omega)) (kb1.trans (same_new hpa _).kb)
  · walk_at "w"
    refine use_take hh1 (by have := hnm.1; omega) (by have := hnm.2.1; omega) (by omega) fun r2 H2 hr20 hr21 hh2 kb2 => ?_
    have el2 := kb2 _ _ el1 nlp
    refine v_ixAny el2 hr20 hr21 fun v hv => ?_
    obtain ⟨z, rfl, hz⟩ := hnm.2.2 v hv
    walk_at "w"
    refine v_ifSh (fun σ' => ∃ (kv : V) (kd : D), Rep H2 kd kv ∧ kindD kd = true ∧ kd.fin 0 ∧ (∀ H', Rep H' kd kv) ∧ σ' = [some (.ref p), some (.ref l), some (.int how), some kv]) ?_ ?_ ?_
    · rintro σ' ⟨kv, kd, hkv, hkd, hkf, hke, rfl⟩
      walk_at "w"
      refine ⟨small (by simp), fun pt hpt => ?_⟩
      have npt : pt ≠ p := hh2.ne hpt
      walk_at "w"
      refine use_take (hh2.new hpt) (by decide) (by decide) (by omega) fun r3 H3 hr30 hr31 hh3 kb3 => ?_
      refine v_ixAnyT (kb3 _ _ upd_same npt) hr30 hr31 fun tv htv => ?_
      obtain ⟨x, rfl, hx⟩ : ∃ x : String, tv = .str (Str.ofString x) ∧ (x = "forth" ∨ x = "back" ∨ x = "either") := by
        simp only [List.mem_cons, List.not_mem_nil, or_false] at htv
        rcases htv with rfl | rfl | rfl | rfl
        · exact ⟨_, rfl, .inl rfl⟩
        · exact ⟨_, rfl, .inr (.inl rfl)⟩
        · exact ⟨_, rfl, .inr (.inr rfl)⟩
        · exact ⟨_, rfl, .inl rfl⟩
      clear htv
      have hxl : (Str.ofString x).length ≤ 100 := by
        rcases hx with rfl | rfl | rfl <;> decide +kernel
      walk_at "w"
      refine ⟨small (by simp), fun pa hpa => ?_⟩
      exact k _ (.tup [dS "step", kd, dS x]) _ ⟨pa, _, rfl, upd_same, _, _, rfl, rfl, _, _, rfl, hke _, _, _, rfl, rfl, rfl⟩ (isW_step hkd hx) (fin_tup (fins_cons (fin_str (by decide +kernel) _) (fins_cons hkf (fins_cons (fin_str hxl _) (fins_nil _))))) ((hh3.new hpa).mono (by omega)) ((((kb1.trans kb2).trans (same_new hpt _).kb).trans kb3).trans (same_new hpa _).kb)
    · intro _ rest
      refine v_asg (v_C (v_name ?_))
      exact rest _ ⟨.non, .non, rfl, rfl, fin_non _, fun _ => rfl, rfl⟩
    · intro _ rest
      refine v_next ?_
      exact rest _ ⟨.str z, .str z, rfl, hz, fin_str (name_len hz) _, fun _ => rfl, rfl⟩
def spWay (n : Nat) : Sp := fun vs H Q _ => ∃ (p : Addr) (c : Int) (l : Addr) (xs : List V) (room : Nat) (nest : Int), vs = [.ref p, .ref l, .int room, .int nest] ∧ 1 ≤ room ∧ room < n ∧ 0 ≤ nest ∧ room ≤ 1000 ∧ Hd H p c ∧ c + 10 * (room : Int) < 900000000 ∧ H l = some (.lst xs) ∧ Names xs ∧ l ≠ p ∧
  ∀ (v : V) (d : D) H', Rep H' d v → isW d → d.fin room → Hd H' p (c + 10 * (room : Int)) → KeepBut p H H' → Q v H'
theorem ok__law_way (T : Txt K mg t) : ∀ n : Nat, FnOk P w K mg base CX0 (n + 3) t.f__law_way t.d__law_way ["_law_hand_here", "_law_kinds_here", "_law_room", "_law_nest"] (spWay n)
  | 0 => by
    have none : ∀ vs H Q E, ¬ spWay 0 vs H Q E := fun vs H Q E h => by
      obtain ⟨p, c, l, xs, room, nest, _, _, h, _⟩ := h
      exact absurd h (Nat.not_lt_zero _)
    exact ⟨fun vs H Q E h => absurd h (none vs H Q E), fun A outer s H args us vs Q E _ _ _ _ h => absurd h (none vs H Q E)⟩
  | n + 1 => by
    have G__law_way : FnOk P w K mg base CX0 (n + 3) t.f__law_way t.d__law_way ["_law_hand_here", "_law_kinds_here", "_law_room", "_law_nest"] (spWay n) := ok__law_way T n
    have G__law_take : FnOk P w K mg base CX0 1 t.f__law_take t.d__law_take ["_law_hand_here", "_law_many"] spTake := ok_take T
    have G__law_leaf : FnOk P w K mg base CX0 2 t.f__law_leaf t.d__law_leaf ["_law_hand_here", "_law_kinds_here"] spLeaf := ok__law_leaf T
    refine T.F__law_way.ok sc__law_way (fun vs H Q E h => ?_) (fun cdv A outer s H vs Q E hr h => ?_)
    · obtain ⟨p, c, l, xs, room, nest, rfl, _⟩ := h
      rfl
    obtain ⟨p, c, l, xs, room, nest, rfl, hr1, hn, hne, hrm, hh, hc, el, hnm, nlp, k⟩ := h
    refine' ⟨_, ?der, ?_⟩
    case der =>
     conv => arg 2; whnf
     with_reducible refine' pss_cons ?d301 ?d302
     case d301 =>
      with_reducible refine' ps_setk (i := 4) ?d303 ?d304 ?d305 ?d306 ?d307 ?d308
      case d303 => exact sc__law_way.nd
      case d304 => exact rfl
      case d305 => exact (Or.inl q__law_way__law_how.lk)
      case d306 =>
       with_reducible refine' pe_callk ?d309 ?d310 ?d311 ?d312 ?d313 ?d314 ?d315 ?d316 ?d317 ?d318 ?d319
       case d309 => exact G__law_take
       case d310 => exact (hr.mono (by omega))
       case d311 => exact q__law_way__law_take
       case d312 => exact T.m__law_take
       case d313 => exact T.F__law_take.kp
       case d314 => exact T.b__law_take
       case d315 => exact .nil
       case d316 => exact pass0
       case d317 =>
        with_reducible refine' pa_c ?d320 ?d321 ?d322
        case d320 => exact (pvk 0 q__law_way__law_hand_here (by rfl) (by rfl))
        case d321 =>
         with_reducible refine' pa_c ?d323 ?d324 ?d325
         case d323 => exact pe_int
         case d324 => exact pa_nil
         case d325 => rfl
        case d322 => rfl
       case d318 => rfl
       case d319 => rfl
      case d307 => rfl
      case d308 => rfl
     case d302 =>
      with_reducible refine' pss_cons ?d326 ?d327
      case d326 =>
       with_reducible refine' ps_if ?d328 ?d329 ?d330
       case d328 =>
        with_reducible refine' PW.pt ?d331
        case d331 =>
         with_reducible refine' pw_or ?d332 ?d333
         case d332 =>
          with_reducible refine' pt_cmpR ?d334 ?d335 ?d336 ?d337
          case d334 => exact op_ltA
          case d335 => exact (pvk 2 q__law_way__law_room (by rfl) (by rfl))
          case d336 => exact pe_int
          case d337 => exact (nomark _)
         case d333 =>
          with_reducible refine' pw_or ?d338 ?d339
          case d338 =>
           with_reducible refine' pt_cmpR ?d340 ?d341 ?d342 ?d343
           case d340 => exact op_ltA
           case d341 => exact (pvk 4 q__law_way__law_how (by rfl) (by rfl))
           case d342 => exact pe_int
           case d343 => exact (nomark _)
          case d339 =>
           with_reducible refine' pw_or1 ?d344
           case d344 =>
            with_reducible refine' PW.pt ?d345
            case d345 =>
             with_reducible refine' pw_and ?d346 ?d347
             case d346 =>
              with_reducible refine' pt_cmpR ?d348 ?d349 ?d350 ?d351
              case d348 => exact op_ltA
              case d349 => exact (pvk 2 q__law_way__law_room (by rfl) (by rfl))
              case d350 => exact pe_int
              case d351 => exact (nomark _)
             case d347 =>
              with_reducible refine' pw_and1 ?d352
              case d352 =>
               with_reducible refine' pt_cmpR ?d353 ?d354 ?d355 ?d356
               case d353 => exact op_eq
               case d354 => exact (pvk 3 q__law_way__law_nest (by rfl) (by rfl))
               case d355 => exact pe_int
               case d356 => exact (nomark _)
       case d329 =>
        with_reducible refine' pss_one ?d357
        case d357 =>
         with_reducible refine' ps_ret ?d358
         case d358 =>
          with_reducible refine' pe_callk ?d359 ?d360 ?d361 ?d362 ?d363 ?d364 ?d365 ?d366 ?d367 ?d368 ?d369
          case d359 => exact G__law_leaf
          case d360 => exact (hr.mono (by omega))
          case d361 => exact q__law_way__law_leaf
          case d362 => exact T.m__law_leaf
          case d363 => exact T.F__law_leaf.kp
          case d364 => exact T.b__law_leaf
          case d365 => exact .nil
          case d366 => exact pass0
          case d367 =>
           with_reducible refine' pa_c ?d370 ?d371 ?d372
           case d370 => exact (pvk 0 q__law_way__law_hand_here (by rfl) (by rfl))
           case d371 =>
            with_reducible refine' pa_c ?d373 ?d374 ?d375
            case d373 => exact (pvk 1 q__law_way__law_kinds_here (by rfl) (by rfl))
            case d374 => exact pa_nil
            case d375 => rfl
           case d372 => rfl
          case d368 => rfl
          case d369 => rfl
       case d330 => exact pss_nil
      case d327 =>
       with_reducible refine' pss_cons ?d376 ?d377
       case d376 =>
        with_reducible refine' ps_if ?d378 ?d379 ?d380
        case d378 =>
         with_reducible refine' PW.pt ?d381
         case d381 =>
          with_reducible refine' pw_and ?d382 ?d383
          case d382 =>
           with_reducible refine' PW.pt ?d384
           case d384 =>
            with_reducible refine' pw_or ?d385 ?d386
            case d385 =>
             with_reducible refine' pt_cmpR ?d387 ?d388 ?d389 ?d390
             case d387 => exact op_ltA
             case d388 => exact (pvk 4 q__law_way__law_how (by rfl) (by rfl))
             case d389 => exact pe_int
             case d390 => exact (nomark _)
            case d386 =>
             with_reducible refine' pw_or1 ?d391
             case d391 =>
              with_reducible refine' pt_cmpR ?d392 ?d393 ?d394 ?d395
              case d392 => exact op_ltA
              case d393 => exact (pvk 2 q__law_way__law_room (by rfl) (by rfl))
              case d394 => exact pe_int
              case d395 => exact (nomark _)
          case d383 =>
           with_reducible refine' pw_and1 ?d396
           case d396 =>
            with_reducible refine' pt_cmpR ?d397 ?d398 ?d399 ?d400
            case d397 => exact op_gtA
            case d398 => exact (pvk 3 q__law_way__law_nest (by rfl) (by rfl))
            case d399 => exact pe_int
            case d400 => exact (nomark _)
        case d379 =>
         with_reducible refine' pss_one ?d401
         case d401 =>
          with_reducible refine' ps_ret ?d402
          case d402 =>
           with_reducible refine' pe_tup ?d403
           case d403 =>
            with_reducible refine' pa_c ?d404 ?d405 ?d406
            case d404 => exact pe_str
            case d405 =>
             with_reducible refine' pa_c ?d407 ?d408 ?d409
             case d407 =>
              with_reducible refine' pe_callk ?d410 ?d411 ?d412 ?d413 ?d414 ?d415 ?d416 ?d417 ?d418 ?d419 ?d420
              case d410 => exact G__law_way
              case d411 => exact (hr.mono (by omega))
              case d412 => exact q__law_way__law_way
              case d413 => exact T.m__law_way
              case d414 => exact T.F__law_way.kp
              case d415 => exact T.b__law_way
              case d416 => exact .nil
              case d417 => exact pass0
              case d418 =>
               with_reducible refine' pa_c ?d421 ?d422 ?d423
               case d421 => exact (pvk 0 q__law_way__law_hand_here (by rfl) (by rfl))
               case d422 =>
                with_reducible refine' pa_c ?d424 ?d425 ?d426
                case d424 => exact (pvk 1 q__law_way__law_kinds_here (by rfl) (by rfl))
                case d425 =>
                 with_reducible refine' pa_c ?d427 ?d428 ?d429
                 case d427 =>
                  with_reducible refine' pe_op ?d430 ?d431 ?d432
                  case d430 => exact op_sub
                  case d431 => exact (pvk 2 q__law_way__law_room (by rfl) (by rfl))
                  case d432 => exact pe_int
                 case d428 =>
                  with_reducible refine' pa_c ?d433 ?d434 ?d435
                  case d433 =>
                   with_reducible refine' pe_op ?d436 ?d437 ?d438
                   case d436 => exact op_sub
                   case d437 => exact (pvk 3 q__law_way__law_nest (by rfl) (by rfl))
                   case d438 => exact pe_int
                  case d434 => exact pa_nil
                  case d435 => rfl
                 case d429 => rfl
                case d426 => rfl
               case d423 => rfl
              case d419 => rfl
              case d420 => rfl
             case d408 => exact pa_nil
             case d409 => rfl
            case d406 => rfl
        case d380 => exact pss_nil
       case d377 =>
        with_reducible refine' pss_cons ?d439 ?d440
        case d439 =>
         with_reducible refine' ps_if ?d441 ?d442 ?d443
         case d441 =>
          with_reducible refine' PW.pt ?d444
          case d444 =>
           with_reducible refine' pw_and ?d445 ?d446
           case d445 =>
            with_reducible refine' pt_cmpR ?d447 ?d448 ?d449 ?d450
            case d447 => exact op_eq
            case d448 => exact (pvk 4 q__law_way__law_how (by rfl) (by rfl))
            case d449 => exact pe_int
            case d450 => exact (nomark _)
           case d446 =>
            with_reducible refine' pw_and1 ?d451
            case d451 =>
             with_reducible refine' pt_cmpR ?d452 ?d453 ?d454 ?d455
             case d452 => exact op_gtA
             case d453 => exact (pvk 3 q__law_way__law_nest (by rfl) (by rfl))
             case d454 => exact pe_int
             case d455 => exact (nomark _)
         case d442 =>
          with_reducible refine' pss_cons ?d456 ?d457
          case d456 =>
           with_reducible refine' ps_setk (i := 5) ?d458 ?d459 ?d460 ?d461 ?d462 ?d463
           case d458 => exact sc__law_way.nd
           case d459 => exact rfl
           case d460 => exact (Or.inl q__law_way__law_low.lk)
           case d461 =>
            with_reducible refine' pe_callk ?d464 ?d465 ?d466 ?d467 ?d468 ?d469 ?d470 ?d471 ?d472 ?d473 ?d474
            case d464 => exact G__law_take
            case d465 => exact (hr.mono (by omega))
            case d466 => exact q__law_way__law_take
            case d467 => exact T.m__law_take
            case d468 => exact T.F__law_take.kp
            case d469 => exact T.b__law_take
            case d470 => exact .nil
            case d471 => exact pass0
            case d472 =>
             with_reducible refine' pa_c ?d475 ?d476 ?d477
             case d475 => exact (pvk 0 q__law_way__law_hand_here (by rfl) (by rfl))
             case d476 =>
              with_reducible refine' pa_c ?d478 ?d479 ?d480
              case d478 => exact pe_int
              case d479 => exact pa_nil
              case d480 => rfl
             case d477 => rfl
            case d473 => rfl
            case d474 => rfl
           case d462 => rfl
           case d463 => rfl
          case d457 =>
           with_reducible refine' pss_cons ?d481 ?d482
           case d481 =>
            with_reducible refine' ps_setk (i := 6) ?d483 ?d484 ?d485 ?d486 ?d487 ?d488
            case d483 => exact sc__law_way.nd
            case d484 => exact rfl
            case d485 => exact (Or.inl q__law_way__law_high.lk)
            case d486 =>
             with_reducible refine' pe_op ?d489 ?d490 ?d491
             case d489 => exact op_addA
             case d490 => exact (pvk 5 q__law_way__law_low (by rfl) (by rfl))
             case d491 =>
              with_reducible refine' pe_callk ?d492 ?d493 ?d494 ?d495 ?d496 ?d497 ?d498 ?d499 ?d500 ?d501 ?d502
              case d492 => exact G__law_take
              case d493 => exact (hr.mono (by omega))
              case d494 => exact q__law_way__law_take
              case d495 => exact T.m__law_take
              case d496 => exact T.F__law_take.kp
              case d497 => exact T.b__law_take
              case d498 => exact .nil
              case d499 => exact pass0
              case d500 =>
               with_reducible refine' pa_c ?d503 ?d504 ?d505
               case d503 => exact (pvk 0 q__law_way__law_hand_here (by rfl) (by rfl))
               case d504 =>
                with_reducible refine' pa_c ?d506 ?d507 ?d508
                case d506 =>
                 with_reducible refine' pe_ix ?d509 ?d510 ?d511 ?d512
                 case d509 => exact ix_any
                 case d510 =>
                  with_reducible refine' pe_tup ?d513
                  case d513 =>
                   with_reducible refine' pa_c ?d514 ?d515 ?d516
                   case d514 => exact pe_int
                   case d515 =>
                    with_reducible refine' pa_c ?d517 ?d518 ?d519
                    case d517 => exact pe_int
                    case d518 =>
                     with_reducible refine' pa_c ?d520 ?d521 ?d522
                     case d520 => exact pe_int
                     case d521 => exact pa_nil
                     case d522 => rfl
                    case d519 => rfl
                   case d516 => rfl
                 case d511 =>
                  with_reducible refine' pe_callk ?d523 ?d524 ?d525 ?d526 ?d527 ?d528 ?d529 ?d530 ?d531 ?d532 ?d533
                  case d523 => exact G__law_take
                  case d524 => exact (hr.mono (by omega))
                  case d525 => exact q__law_way__law_take
                  case d526 => exact T.m__law_take
                  case d527 => exact T.F__law_take.kp
                  case d528 => exact T.b__law_take
                  case d529 => exact .nil
                  case d530 => exact pass0
                  case d531 =>
                   with_reducible refine' pa_c ?d534 ?d535 ?d536
                   case d534 => exact (pvk 0 q__law_way__law_hand_here (by rfl) (by rfl))
                   case d535 =>
                    with_reducible refine' pa_c ?d537 ?d538 ?d539
                    case d537 => exact pe_int
                    case d538 => exact pa_nil
                    case d539 => rfl
                   case d536 => rfl
                  case d532 => rfl
                  case d533 => rfl
                 case d512 => exact (fun _ _ => rfl)
                case d507 => exact pa_nil
                case d508 => rfl
               case d505 => rfl
              case d501 => rfl
              case d502 => rfl
            case d487 => rfl
            case d488 => rfl
           case d482 =>
            with_reducible refine' pss_one ?d540
            case d540 =>
             with_reducible refine' ps_ret ?d541
             case d541 =>
              with_reducible refine' pe_tup ?d542
              case d542 =>
               with_reducible refine' pa_c ?d543 ?d544 ?d545
               case d543 => exact pe_str
               case d544 =>
                with_reducible refine' pa_c ?d546 ?d547 ?d548
                case d546 =>
                 with_reducible refine' pe_callk ?d549 ?d550 ?d551 ?d552 ?d553 ?d554 ?d555 ?d556 ?d557 ?d558 ?d559
                 case d549 => exact G__law_way
                 case d550 => exact (hr.mono (by omega))
                 case d551 => exact q__law_way__law_way
                 case d552 => exact T.m__law_way
                 case d553 => exact T.F__law_way.kp
                 case d554 => exact T.b__law_way
                 case d555 => exact .nil
                 case d556 => exact pass0
                 case d557 =>
                  with_reducible refine' pa_c ?d560 ?d561 ?d562
                  case d560 => exact (pvk 0 q__law_way__law_hand_here (by rfl) (by rfl))
                  case d561 =>
                   with_reducible refine' pa_c ?d563 ?d564 ?d565
                   case d563 => exact (pvk 1 q__law_way__law_kinds_here (by rfl) (by rfl))
                   case d564 =>
                    with_reducible refine' pa_c ?d566 ?d567 ?d568
                    case d566 =>
                     with_reducible refine' pe_op ?d569 ?d570 ?d571
                     case d569 => exact op_sub
                     case d570 => exact (pvk 2 q__law_way__law_room (by rfl) (by rfl))
                     case d571 => exact pe_int
                    case d567 =>
                     with_reducible refine' pa_c ?d572 ?d573 ?d574
                     case d572 =>
                      with_reducible refine' pe_op ?d575 ?d576 ?d577
                      case d575 => exact op_sub
                      case d576 => exact (pvk 3 q__law_way__law_nest (by rfl) (by rfl))
                      case d577 => exact pe_int
                     case d573 => exact pa_nil
                     case d574 => rfl
                    case d568 => rfl
                   case d565 => rfl
                  case d562 => rfl
                 case d558 => rfl
                 case d559 => rfl
                case d547 =>
                 with_reducible refine' pa_c ?d578 ?d579 ?d580
                 case d578 => exact (pvk 5 q__law_way__law_low (by rfl) (by rfl))
                 case d579 =>
                  with_reducible refine' pa_c ?d581 ?d582 ?d583
                  case d581 => exact (pvk 6 q__law_way__law_high (by rfl) (by rfl))
                  case d582 => exact pa_nil
                  case d583 => rfl
                 case d580 => rfl
                case d548 => rfl
               case d545 => rfl
         case d443 => exact pss_nil
        case d440 =>
         with_reducible refine' pss_cons ?d584 ?d585
         case d584 =>
          with_reducible refine' ps_setk (i := 7) ?d586 ?d587 ?d588 ?d589 ?d590 ?d591
          case d586 => exact sc__law_way.nd
          case d587 => exact rfl
          case d588 => exact (Or.inl q__law_way__law_left.lk)
          case d589 =>
           with_reducible refine' pe_op ?d592 ?d593 ?d594
           case d592 => exact op_addA
           case d593 => exact pe_int
           case d594 =>
            with_reducible refine' pe_callk ?d595 ?d596 ?d597 ?d598 ?d599 ?d600 ?d601 ?d602 ?d603 ?d604 ?d605
            case d595 => exact G__law_take
            case d596 => exact (hr.mono (by omega))
            case d597 => exact q__law_way__law_take
            case d598 => exact T.m__law_take
            case d599 => exact T.F__law_take.kp
            case d600 => exact T.b__law_take
            case d601 => exact .nil
            case d602 => exact pass0
            case d603 =>
             with_reducible refine' pa_c ?d606 ?d607 ?d608
             case d606 => exact (pvk 0 q__law_way__law_hand_here (by rfl) (by rfl))
             case d607 =>
              with_reducible refine' pa_c ?d609 ?d610 ?d611
              case d609 =>
               with_reducible refine' pe_op ?d612 ?d613 ?d614
               case d612 => exact op_sub
               case d613 => exact (pvk 2 q__law_way__law_room (by rfl) (by rfl))
               case d614 => exact pe_int
              case d610 => exact pa_nil
              case d611 => rfl
             case d608 => rfl
            case d604 => rfl
            case d605 => rfl
          case d590 => rfl
          case d591 => rfl
         case d585 =>
          with_reducible refine' pss_cons ?d615 ?d616
          case d615 =>
           with_reducible refine' ps_setk (i := 8) ?d617 ?d618 ?d619 ?d620 ?d621 ?d622
           case d617 => exact sc__law_way.nd
           case d618 => exact rfl
           case d619 => exact (Or.inl q__law_way__law_one.lk)
           case d620 =>
            with_reducible refine' pe_callk ?d623 ?d624 ?d625 ?d626 ?d627 ?d628 ?d629 ?d630 ?d631 ?d632 ?d633
            case d623 => exact G__law_way
            case d624 => exact (hr.mono (by omega))
            case d625 => exact q__law_way__law_way
            case d626 => exact T.m__law_way
            case d627 => exact T.F__law_way.kp
            case d628 => exact T.b__law_way
            case d629 => exact .nil
            case d630 => exact pass0
            case d631 =>
             with_reducible refine' pa_c ?d634 ?d635 ?d636
             case d634 => exact (pvk 0 q__law_way__law_hand_here (by rfl) (by rfl))
             case d635 =>
              with_reducible refine' pa_c ?d637 ?d638 ?d639
              case d637 => exact (pvk 1 q__law_way__law_kinds_here (by rfl) (by rfl))
              case d638 =>
               with_reducible refine' pa_c ?d640 ?d641 ?d642
               case d640 => exact (pvk 7 q__law_way__law_left (by rfl) (by rfl))
               case d641 =>
                with_reducible refine' pa_c ?d643 ?d644 ?d645
                case d643 => exact (pvk 3 q__law_way__law_nest (by rfl) (by rfl))
                case d644 => exact pa_nil
                case d645 => rfl
               case d642 => rfl
              case d639 => rfl
             case d636 => rfl
            case d632 => rfl
            case d633 => rfl
           case d621 => rfl
           case d622 => rfl
          case d616 =>
           with_reducible refine' pss_one ?d646
           case d646 =>
            with_reducible refine' ps_ret ?d647
            case d647 =>
             with_reducible refine' pe_tup ?d648
             case d648 =>
              with_reducible refine' pa_c ?d649 ?d650 ?d651
              case d649 =>
               with_reducible refine' pe_ix ?d652 ?d653 ?d654 ?d655
               case d652 => exact ix_any
               case d653 =>
                with_reducible refine' pe_tup ?d656
                case d656 =>
                 with_reducible refine' pa_c ?d657 ?d658 ?d659
                 case d657 => exact pe_str
                 case d658 =>
                  with_reducible refine' pa_c ?d660 ?d661 ?d662
                  case d660 => exact pe_str
                  case d661 => exact pa_nil
                  case d662 => rfl
                 case d659 => rfl
               case d654 =>
                with_reducible refine' pe_op ?d663 ?d664 ?d665
                case d663 => exact op_mod
                case d664 => exact (pvk 4 q__law_way__law_how (by rfl) (by rfl))
                case d665 => exact pe_int
               case d655 => exact (fun _ _ => rfl)
              case d650 =>
               with_reducible refine' pa_c ?d666 ?d667 ?d668
               case d666 => exact (pvk 8 q__law_way__law_one (by rfl) (by rfl))
               case d667 =>
                with_reducible refine' pa_c ?d669 ?d670 ?d671
                case d669 =>
                 with_reducible refine' pe_callk ?d672 ?d673 ?d674 ?d675 ?d676 ?d677 ?d678 ?d679 ?d680 ?d681 ?d682
                 case d672 => exact G__law_way
                 case d673 => exact (hr.mono (by omega))
                 case d674 => exact q__law_way__law_way
                 case d675 => exact T.m__law_way
                 case d676 => exact T.F__law_way.kp
                 case d677 => exact T.b__law_way
                 case d678 => exact .nil
                 case d679 => exact pass0
                 case d680 =>
                  with_reducible refine' pa_c ?d683 ?d684 ?d685
                  case d683 => exact (pvk 0 q__law_way__law_hand_here (by rfl) (by rfl))
                  case d684 =>
                   with_reducible refine' pa_c ?d686 ?d687 ?d688
                   case d686 => exact (pvk 1 q__law_way__law_kinds_here (by rfl) (by rfl))
                   case d687 =>
                    with_reducible refine' pa_c ?d689 ?d690 ?d691
                    case d689 =>
                     with_reducible refine' pe_op ?d692 ?d693 ?d694
                     case d692 => exact op_sub
                     case d693 =>
                      with_reducible refine' pe_op ?d695 ?d696 ?d697
                      case d695 => exact op_sub
                      case d696 => exact (pvk 2 q__law_way__law_room (by rfl) (by rfl))
                      case d697 => exact pe_int
                     case d694 => exact (pvk 7 q__law_way__law_left (by rfl) (by rfl))
                    case d690 =>
                     with_reducible refine' pa_c ?d698 ?d699 ?d700
                     case d698 => exact (pvk 3 q__law_way__law_nest (by rfl) (by rfl))
                     case d699 => exact pa_nil
                     case d700 => rfl
                    case d691 => rfl
                   case d688 => rfl
                  case d685 => rfl
                 case d681 => rfl
                 case d682 => rfl
                case d670 => exact pa_nil
                case d671 => rfl
               case d668 => rfl
              case d651 => rfl
    walk_at "w"
    refine use_take hh (by decide) (by decide) (by omega) fun how H1 hw0 hw1 hh1 kb1 => ?_
    have el1 := kb1 _ _ el nlp
    walk_at "w"
    refine v_sh (room < 2 ∨ how < 2 ∨ (room < 3 ∧ nest = 0)) ?_ (fun h => .inl (by omega)) (fun h1 hF => ?_)
    · intro b hb
      refine v_ite (fun e => ?_) (fun e => ?_)
      · walk_at "w"
        refine ⟨p, _, l, xs, rfl, hh1, by omega, el1, hnm, nlp, fun v d H2 hv hW hf hh2 kb2 => ?_⟩
        exact k v d H2 hv hW (fin_mono hf hr1) (hh2.mono (by omega)) (kb1.trans kb2)
      · have hno : ¬ (room < 2 ∨ how < 2 ∨ (room < 3 ∧ nest = 0)) := fun h => by rw [hb.mpr h] at e; cases e
        obtain ⟨rm, rfl⟩ : ∃ rm, room = rm + 1 := ⟨room - 1, by omega⟩
        have ed : ((rm + 1 : Nat) : Int) - 1 = (rm : Int) := by omega
        walk_at "w"
        refine v_sh (how < 4 ∨ rm + 1 < 3) ?_ (fun h => .inl h) (fun h1 hF => ?_)
        · intro b2 hb2
          refine v_sharedB (R := fun H' => H' = H1 ∧ ¬ ((how < 4 ∨ rm + 1 < 3) ∧ 0 < nest)) ?_ ?_ ?_
          · rintro H' ⟨rfl, h2⟩
            walk_at "w"
            refine v_shared (R := fun H2 => H2 = H' ∧ ¬ (how = 4 ∧ 0 < nest)) ?_ ?_ ?_
            · rintro H2 ⟨rfl, h3⟩
              have h3r : 3 ≤ rm + 1 := by omega
              walk_at "w"
              refine use_take hh1 (by omega) (by omega) (by omega) fun r3 H3 hr30 hr31 hh3 kb3 => ?_
              have el3 := kb3 _ _ el1 nlp
              obtain ⟨lf, hlf⟩ : ∃ lf : Nat, 1 + r3 = (lf : Int) := ⟨(1 + r3).toNat, by omega⟩
              walk_at "w"
              rw [hlf]
              refine ⟨p, _, l, xs, lf, nest, rfl, by omega, by omega, hne, by omega, hh3, by omega, el3, hnm, nlp, fun v d H4 hv hW hf hh4 kb4 => ?_⟩
              have el4 := kb4 _ _ el3 nlp
              walk_at "w"
              refine ⟨small (by simp), fun pt hpt => ?_⟩
              have npt : pt ≠ p := hh4.ne hpt
              walk_at "w"
              refine v_ixAnyT upd_same (Int.emod_nonneg _ (by decide)) (Int.emod_lt_of_pos _ (by decide)) fun tv htv => ?_
              obtain ⟨x, rfl, hx⟩ : ∃ x : String, tv = .str (Str.ofString x) ∧ (x = "then" ∨ x = "or") := by
                simp only [List.mem_cons, List.not_mem_nil, or_false] at htv
                rcases htv with rfl | rfl
                · exact ⟨_, rfl, .inl rfl⟩
                · exact ⟨_, rfl, .inr rfl⟩
              clear htv
              have hxl : (Str.ofString x).length ≤ 100 := by
                rcases hx with rfl | rfl <;> decide +kernel
              obtain ⟨rt, hrt⟩ : ∃ rt : Nat, ((rm + 1 : Nat) : Int) - 1 - (lf : Int) = (rt : Int) := ⟨(((rm + 1 : Nat) : Int) - 1 - (lf : Int)).toNat, by omega⟩
              walk_at "w"
              rw [hrt]
              refine ⟨p, _, l, xs, rt, nest, rfl, by omega, by omega, hne, by omega, hh4.new hpt, by omega, upd_new el4 hpt, hnm, nlp, fun v5 d5 H5 hv5 hW5 hf5 hh5 kb5 => ?_⟩
              have hv' := (hv.same (same_new hpt _)).keepT (hh4.new hpt) kb5 hf.2.1
              walk_at "w"
              refine ⟨small (by simp), fun pa hpa => ?_⟩
              exact k _ (.tup [dS x, d, d5]) _ ⟨pa, _, rfl, upd_same, _, _, rfl, rfl, _, _, rfl, hv'.same (same_new hpa _), _, _, rfl, hv5.same (same_new hpa _), rfl⟩ (isW_two hx hW hW5) (fin_tup (fins_cons (fin_str hxl _) (fins_cons (fin_mono hf (by omega)) (fins_cons (fin_mono hf5 (by omega)) (fins_nil _))))) ((hh5.new hpa).mono (by omega)) (((((kb1.trans kb3).trans kb4).trans (same_new hpt _).kb).trans kb5).trans (same_new hpa _).kb)
            · intro h4 rest
              walk_at "w"
              by_cases hnp : 0 < nest
              · refine v_iteD (fun _ => ?_) (fun h => absurd hnp h)
                walk_at "w"
                refine use_take hh1 (by decide) (by decide) (by omega) fun lo H3 hlo0 hlo1 hh3 kb3 => ?_
                have el3 := kb3 _ _ el1 nlp
                walk_at "w"
                refine ⟨small (by simp), fun pt hpt => ?_⟩
                have npt : pt ≠ p := hh3.ne hpt
                walk_at "w"
                refine use_take (hh3.new hpt) (by decide) (by decide) (by omega) fun r4 H4 hr40 hr41 hh4 kb4 => ?_
                have el4 := kb4 _ _ (upd_new el3 hpt) nlp
                refine v_ixAnyT (kb4 _ _ upd_same npt) hr40 hr41 fun tv htv => ?_
                obtain ⟨mm, rfl, hmm⟩ : ∃ mm : Int, tv = .int mm ∧ (mm = 2 ∨ mm = 4) := by
                  simp only [List.mem_cons, List.not_mem_nil, or_false] at htv
                  rcases htv with rfl | rfl | rfl
                  · exact ⟨_, rfl, .inl rfl⟩
                  · exact ⟨_, rfl, .inl rfl⟩
                  · exact ⟨_, rfl, .inr rfl⟩
                clear htv
                walk_at "w"
                refine use_take hh4 (by omega) (by omega) (by omega) fun hi H5 hhi0 hhi1 hh5 kb5 => ?_
                have el5 := kb5 _ _ el4 nlp
                walk_at "w"
                rw [ed]
                refine ⟨p, _, l, xs, rm, nest - 1, rfl, by omega, by omega, by omega, by omega, hh5, by omega, el5, hnm, nlp, fun v d H6 hv hW hf hh6 kb6 => ?_⟩
                walk_at "w"
                refine ⟨small (by simp), fun pa hpa => ?_⟩
                exact k _ (.tup [dS "many", d, .int lo, .int (lo + hi)]) _ ⟨pa, _, rfl, upd_same, _, _, rfl, rfl, _, _, rfl, hv.same (same_new hpa _), _, _, rfl, rfl, _, _, rfl, rfl, rfl⟩ (isW_many hW hlo0 (by omega) (by omega)) (fin_tup (fins_cons (fin_str (by decide +kernel) _) (fins_cons hf (fins_cons (fin_int _ _) (fins_cons (fin_int _ _) (fins_nil _)))))) ((hh6.new hpa).mono (by omega)) ((((((kb1.trans kb3).trans (same_new hpt _).kb).trans kb4).trans kb5).trans kb6).trans (same_new hpa _).kb)
              · refine v_iteD (fun h => absurd h hnp) (fun _ => ?_)
                exact rest _ ⟨rfl, fun q => hnp q.2⟩
            · intro h4
              exact ⟨rfl, fun q => h4 q.1⟩
          · intro hbt rest
            walk_at "w"
            by_cases hnp : 0 < nest
            · refine v_iteD (fun _ => ?_) (fun h => absurd hnp h)
              walk_at "w"
              rw [ed]
              refine ⟨p, _, l, xs, rm, nest - 1, rfl, by omega, by omega, by omega, by omega, hh1, by omega, el1, hnm, nlp, fun v d H2 hv hW hf hh2 kb2 => ?_⟩
              walk_at "w"
              refine ⟨small (by simp), fun pa hpa => ?_⟩
              exact k _ (.tup [dS "again", d]) _ ⟨pa, _, rfl, upd_same, _, _, rfl, rfl, _, _, rfl, hv.same (same_new hpa _), rfl⟩ (isW_again hW) (fin_tup (fins_cons (fin_str (by decide +kernel) _) (fins_cons hf (fins_nil _)))) ((hh2.new hpa).mono (by omega)) ((kb1.trans kb2).trans (same_new hpa _).kb)
            · refine v_iteD (fun h => absurd h hnp) (fun _ => ?_)
              exact rest _ ⟨rfl, fun q => hnp q.2⟩
          · intro hbf
            exact ⟨rfl, fun q => by rw [hb2.mpr q.1] at hbf; cases hbf⟩
        · walk_at "w"
          exact hF _ (by rw [decide_eq_true_iff]; constructor <;> intro h <;> omega)
    · walk_at "w"
      refine v_iteD (fun h2 => hF true ⟨fun _ => .inr (.inl h2), fun _ => rfl⟩) (fun h2 => ?_)
      walk_at "w"
      refine v_iteD (fun h3 => ?_) (fun h3 => ?_)
      · walk_at "w"
        exact hF _ (by rw [decide_eq_true_iff]; constructor <;> intro h <;> omega)
      · exact hF false ⟨fun h => absurd h Bool.false_ne_true, fun h => by exfalso; omega⟩
end
end K14

set_option Elab.async false
set_option linter.all false
set_option maxRecDepth 100000
set_option maxHeartbeats 8000000
namespace K14
open PySem L2
local macro_rules | `(tactic| walk_at "as") => `(tactic| with_reducible assumption)
local macro_rules | `(tactic| walk_at "hand") => `(tactic| first | walk_at "as" | (with_reducible refine' Hand.new ?hdx ?hdy; (case hdy => walk_at "as"); (case hdx => walk_at "hand")))
local macro_rules | `(tactic| walk_at "same") => `(tactic| first | with_reducible exact Same.refl _ | walk_at "as" | (with_reducible refine' Same.trans ?smx (same_new ?smy _); (case smy => walk_at "as"); (case smx => walk_at "same")))
local macro_rules | `(tactic| walk_at "ne") => `(tactic| first | walk_at "as" | (apply Ne.symm; walk_at "as"))
local macro_rules | `(tactic| walk_at "hg") => `(tactic| first | with_reducible exact upd_same | walk_at "as" | (with_reducible refine' upd_new ?hgx ?hgy; (case hgy => walk_at "as"); (case hgx => walk_at "hg")) | (with_reducible refine' Eq.trans (upd_ne ?hgn) ?hgx; (case hgn => walk_at "ne"); (case hgx => walk_at "hg")))
local macro_rules | `(tactic| walk_at "v") => `(tactic| (with_reducible first
  | refine iteT ?_ | refine iteF ?_ | refine v_iteNT ?_ | refine v_iteNF ?_ | refine v_abs ?_ | refine v_seq ?_ | refine v_asg ?_ | refine v_ifS ?_ | refine v_ret ?_ | refine v_retN ?_ | refine v_next ?_ | refine v_break ?_ | refine v_cont ?_ | refine v_drop ?_ | refine v_name ?_ | refine v_gsub ?_
  | refine v_C ?_ | refine v_op ?_ | refine v_un ?_ | refine v_neg ?_ | refine v_test ?_ | refine v_tB ?_ | refine v_bl ?_ | refine v_or ?_ | refine v_and ?_ | refine v_not ?_ | refine v_andV ?_ | refine v_orV ?_ | refine v_notV ?_ | refine v_if ?_ | refine v_chain ?_
  | refine v_call ?_ | refine v_CB ?_ | refine v_cons ?_ | refine v_nil ?_ | refine v_lst ?_ | refine v_tup ?_ | refine v_sl ?_ | refine v_noPart ?_ | refine v_part ?_ | refine v_int ?_ | refine v_bm ?_ | refine v_true ?_
  | refine v_rI0 ?_ | refine v_addI ?_ | refine v_ltI ?_ | refine v_leI ?_ | refine v_gtI ?_ | refine v_geI ?_ | refine v_ltS ?_ | refine v_leS ?_ | refine v_gtS ?_ | refine v_geS ?_
  | refine v_eqI ?_ | refine v_eqS ?_ | refine v_eqB ?_ | refine v_neI ?_ | refine v_neS ?_ | refine v_neB ?_ | refine v_isB ?_ | refine v_isN ?_ | refine v_comp ?_ | refine v_iR1 ?_ | refine v_iStr ?_ | refine v_iStr' ?_ | refine v_iL ?_
  | (refine' v_var ?hv ?_; (case hv => with_unfolding_all rfl))
  | (refine' v_ixL ?h1 ?h2 ?_; (case h1 => walk_at "hg"); (case h2 => with_unfolding_all rfl))
  | (refine' v_ixT ?h1 ?h2 ?_; (case h1 => walk_at "hg"); (case h2 => with_unfolding_all rfl))
  | (refine' v_setL ?h1 ?h2 ?_; (case h1 => walk_at "hg"); (case h2 => with_unfolding_all rfl))
  | (refine' v_lenL ?h1 ?_; (case h1 => walk_at "hg"))
  | (refine' v_lenT ?h1 ?_; (case h1 => walk_at "hg"))
  | (refine v_instT ?h1 ?h2 ?h3 ?_; (case h1 => (simp [tyName, instB, *]; done)); (case h2 => (simp [tyName, *]; done)); (case h3 => (simp; done)))
  | (refine v_instF ?h1 ?h2 ?h3 ?_; (case h1 => (simp [tyName, instB, *]; done)); (case h2 => (simp [tyName, *]; done)); (case h3 => (simp; done)))
  | (refine v_mulI ?h1 ?_; (case h1 => (unfold CMul; omega)))
  | (refine v_rI ?h1 ?_; (case h1 => first | omega | (unfold CDiv; omega) | (unfold CPow; omega)))))
local macro_rules | `(tactic| walk_at "v2") => `(tactic| (with_reducible first | refine v_isNotB ?_ | refine v_isNotN ?_ | refine v_disp ?_ | refine v_pcons ?_ | refine v_pnil ?_ | refine v_dget2 ?_ | refine v_iT ?_ | refine v_chain3 ?_ | refine v_inSign ?_))
local macro_rules | `(tactic| walk_at "w") => `(tactic| repeat (first | walk_at "v" | walk_at "v2"))
local macro_rules | `(tactic| walk_at "vs") => `(tactic| repeat (walk_at "v"))
section
variable {P : Program} {w : World} {K : PySem.W.Frag} {mg : Str → Option Value} {base : Heap} {t : Adr}
def atomB : V → Bool
  | .non => true
  | .bl _ => true
  | .int _ => true
  | .str z => decide (z.length ≤ 100)
  | _ => false
def Od (H : Hp) (v : V) (k : Nat) : Prop := ∃ d, Rep H d v ∧ d.fin k
def Ods (H : Hp) (xs : List V) (k : Nat) : Prop := ∃ ds, Reps H ds xs ∧ D.fins ds k
theorem od_at {H : Hp} {v : V} {k : Nat} (h : atomB v = true) : Od H v k := by
  cases v with
  | non => exact ⟨.non, rfl, fin_non _⟩
  | bl b => exact ⟨.bl b, rfl, fin_bool _ _⟩
  | int i => exact ⟨.int i, rfl, fin_int _ _⟩
  | str z => exact ⟨.str z, rfl, fin_str (by simpa [atomB] using h) _⟩
  | _ => cases h
theorem od_nil {H : Hp} {k : Nat} : Ods H [] k := ⟨[], rfl, fins_nil _⟩
theorem od_cons {H : Hp} {v : V} {xs : List V} {k : Nat} (h : Od H v k) (h2 : Ods H xs k) : Ods H (v :: xs) k := by
  obtain ⟨d, a, b⟩ := h
  obtain ⟨ds, a2, b2⟩ := h2
  exact ⟨d :: ds, ⟨_, _, rfl, a, a2⟩, fins_cons b b2⟩
theorem od_tup {H : Hp} {a : Addr} {xs : List V} {k : Nat} (e : H a = some (.tup xs)) (h : Ods H xs k) : Od H (.ref a) (k + 1) := by
  obtain ⟨ds, a2, b2⟩ := h
  exact ⟨.tup ds, ⟨_, _, rfl, e, a2⟩, fin_tup b2⟩
theorem od_lst {H : Hp} {a : Addr} {xs : List V} {k : Nat} (e : H a = some (.lst xs)) (h : Ods H xs k) (n : ∀ i r, xs ≠ .int i :: r) : Od H (.ref a) (k + 1) := by
  obtain ⟨ds, a2, b2⟩ := h
  refine ⟨.lst ds, ⟨_, _, rfl, e, a2⟩, fin_lst b2 ?_⟩
  rintro i r rfl
  obtain ⟨x, r', e, hx, _⟩ := a2
  cases (show x = .int i from hx)
  exact n _ _ e
def Odds (H : Hp) (xs : List V) : Prop := ∀ v ∈ xs, Od H v 3
theorem Od.same {H H' : Hp} {v : V} {k : Nat} (h : Od H v k) (s : Same H H') : Od H' v k := by
  obtain ⟨d, a, b⟩ := h
  exact ⟨d, a.same s, b⟩
theorem Odds.same {H H' : Hp} {xs : List V} (h : Odds H xs) (s : Same H H') : Odds H' xs := fun v hv => (h v hv).same s
theorem Odds.cons {H : Hp} {v : V} {xs : List V} (h : Od H v 3) (h2 : Odds H xs) : Odds H (v :: xs) := fun u hu => by
  rcases List.mem_cons.mp hu with rfl | hu
  · exact h
  · exact h2 u hu
theorem Odds.nil {H : Hp} : Odds H [] := fun v hv => by simp at hv
theorem v_lstOdd {H : Hp} {Q : VK} {xs : List V} (n : xs.length ≤ 1000) (hx : Odds H xs) (k : ∀ p ys H', Same H H' → H' p = some (.lst ys) → ys.length = xs.length → Odds H' ys → Q (.ref p) H') :
    xs.length ≤ sizeLine ∧ ∀ p, H p = none → Q (.ref p) (upd H p (.lst xs)) :=
  ⟨small n, fun p hp => k p xs _ (same_new hp _) upd_same rfl (hx.same (same_new hp _))⟩
theorem v_addOdd {H : Hp} {Q : VK} {l b : Addr} {xs zs : List V} (H0 : Hp) (s0 : Same H0 H) (h1 : H l = some (.lst xs)) (h2 : H b = some (.lst zs)) (hx : Odds H xs) (hz : Odds H zs) (n : xs.length + zs.length ≤ 1000)
    (k : ∀ p ys H', Same H0 H' → H' p = some (.lst ys) → ys.length = xs.length + zs.length → Odds H' ys → Q (.ref p) H') : rAddA (.ref l) (.ref b) H Q := by
  refine v_addL h1 h2 (small n) fun p hp => k p _ _ (s0.trans (same_new hp _)) upd_same (by simp) ?_
  intro v hv
  rcases List.mem_append.mp hv with hv | hv
  · exact (hx v hv).same (same_new hp _)
  · exact (hz v hv).same (same_new hp _)
local macro_rules | `(tactic| walk_at "od") => `(tactic| repeat (first | exact Odds.nil | refine Odds.cons ?_ ?_ | exact od_at (by decide +kernel) | (refine' od_tup ?hgx ?_; (case hgx => walk_at "hg")) | (refine' od_lst ?hgx ?_ ?hgn; (case hgx => walk_at "hg"); (case hgn => (intro i r h; cases h))) | refine od_cons ?_ ?_ | exact od_nil))
def spOdd : Sp := fun vs H Q _ => ∃ (p : Addr) (c : Int), vs = [.ref p] ∧ Hd H p c ∧ c < 900000000 ∧ ∀ (v : V) (d : D) H', Rep H' d v → d.fin 3 → Hd H' p (c + 1) → KeepBut p H H' → Q v H'
theorem ok__law_odd (T : Txt K mg t) : FnOk P w K mg base CX0 2 t.f__law_odd t.d__law_odd ["_law_hand_here"] spOdd := by
  refine T.F__law_odd.ok sc__law_odd (fun vs H Q E h => ?_) (fun cdv A outer s H vs Q E hr h => ?_)
  · obtain ⟨p, c, rfl, _⟩ := h
    rfl
  obtain ⟨p, c, rfl, hh, hc, k⟩ := h
  have G__law_take : FnOk P w K mg base CX0 1 t.f__law_take t.d__law_take ["_law_hand_here", "_law_many"] spTake := ok_take T
  refine' ⟨_, ?der, ?_⟩
  case der =>
   conv => arg 2; whnf
   with_reducible refine' pss_cons ?d1 ?d2
   case d1 =>
    with_reducible refine' ps_setk (i := 1) ?d3 ?d4 ?d5 ?d6 ?d7 ?d8
    case d3 => exact sc__law_odd.nd
    case d4 => exact rfl
    case d5 => exact (Or.inl q__law_odd__law_some.lk)
    case d6 =>
     with_reducible refine' pe_lst ?d9
     case d9 =>
      with_reducible refine' pa_c ?d10 ?d11 ?d12
      case d10 => exact pe_non
      case d11 =>
       with_reducible refine' pa_c ?d13 ?d14 ?d15
       case d13 => exact pe_bl
       case d14 =>
        with_reducible refine' pa_c ?d16 ?d17 ?d18
        case d16 => exact pe_bl
        case d17 =>
         with_reducible refine' pa_c ?d19 ?d20 ?d21
         case d19 => exact pe_int
         case d20 =>
          with_reducible refine' pa_c ?d22 ?d23 ?d24
          case d22 =>
           with_reducible refine' pe_un ?d25 ?d26
           case d25 => exact un_neg
           case d26 => exact pe_int
          case d23 =>
           with_reducible refine' pa_c ?d27 ?d28 ?d29
           case d27 => exact pe_int
           case d28 =>
            with_reducible refine' pa_c ?d30 ?d31 ?d32
            case d30 => exact pe_int
            case d31 =>
             with_reducible refine' pa_c ?d33 ?d34 ?d35
             case d33 => exact pe_str
             case d34 =>
              with_reducible refine' pa_c ?d36 ?d37 ?d38
              case d36 => exact pe_str
              case d37 =>
               with_reducible refine' pa_c ?d39 ?d40 ?d41
               case d39 => exact pe_str
               case d40 =>
                with_reducible refine' pa_c ?d42 ?d43 ?d44
                case d42 => exact pe_str
                case d43 =>
                 with_reducible refine' pa_c ?d45 ?d46 ?d47
                 case d45 => exact pe_str
                 case d46 =>
                  with_reducible refine' pa_c ?d48 ?d49 ?d50
                  case d48 => exact pe_str
                  case d49 =>
                   with_reducible refine' pa_c ?d51 ?d52 ?d53
                   case d51 => exact pe_str
                   case d52 =>
                    with_reducible refine' pa_c ?d54 ?d55 ?d56
                    case d54 => exact pe_str
                    case d55 =>
                     with_reducible refine' pa_c ?d57 ?d58 ?d59
                     case d57 => exact pe_str
                     case d58 => exact pa_nil
                     case d59 => rfl
                    case d56 => rfl
                   case d53 => rfl
                  case d50 => rfl
                 case d47 => rfl
                case d44 => rfl
               case d41 => rfl
              case d38 => rfl
             case d35 => rfl
            case d32 => rfl
           case d29 => rfl
          case d24 => rfl
         case d21 => rfl
        case d18 => rfl
       case d15 => rfl
      case d12 => rfl
    case d7 => rfl
    case d8 => rfl
   case d2 =>
    with_reducible refine' pss_cons ?d60 ?d61
    case d60 =>
     with_reducible refine' ps_setk (i := 1) ?d62 ?d63 ?d64 ?d65 ?d66 ?d67
     case d62 => exact sc__law_odd.nd
     case d63 => exact rfl
     case d64 => exact (Or.inl q__law_odd__law_some.lk)
     case d65 =>
      with_reducible refine' pe_op ?d68 ?d69 ?d70
      case d68 => exact op_addA
      case d69 => exact (pvk 1 q__law_odd__law_some (by rfl) (by rfl))
      case d70 =>
       with_reducible refine' pe_lst ?d71
       case d71 =>
        with_reducible refine' pa_c ?d72 ?d73 ?d74
        case d72 =>
         with_reducible refine' pe_tup ?d75
         case d75 => exact pa_nil
        case d73 =>
         with_reducible refine' pa_c ?d76 ?d77 ?d78
         case d76 =>
          with_reducible refine' pe_lst ?d79
          case d79 => exact pa_nil
         case d77 =>
          with_reducible refine' pa_c ?d80 ?d81 ?d82
          case d80 =>
           with_reducible refine' pe_tup ?d83
           case d83 =>
            with_reducible refine' pa_c ?d84 ?d85 ?d86
            case d84 =>
             with_reducible refine' pe_tup ?d87
             case d87 =>
              with_reducible refine' pa_c ?d88 ?d89 ?d90
              case d88 => exact pe_str
              case d89 => exact pa_nil
              case d90 => rfl
            case d85 => exact pa_nil
            case d86 => rfl
          case d81 =>
           with_reducible refine' pa_c ?d91 ?d92 ?d93
           case d91 =>
            with_reducible refine' pe_lst ?d94
            case d94 =>
             with_reducible refine' pa_c ?d95 ?d96 ?d97
             case d95 => exact pe_str
             case d96 => exact pa_nil
             case d97 => rfl
           case d92 =>
            with_reducible refine' pa_c ?d98 ?d99 ?d100
            case d98 =>
             with_reducible refine' pe_tup ?d101
             case d101 =>
              with_reducible refine' pa_c ?d102 ?d103 ?d104
              case d102 => exact pe_str
              case d103 => exact pa_nil
              case d104 => rfl
            case d99 =>
             with_reducible refine' pa_c ?d105 ?d106 ?d107
             case d105 =>
              with_reducible refine' pe_tup ?d108
              case d108 =>
               with_reducible refine' pa_c ?d109 ?d110 ?d111
               case d109 => exact pe_str
               case d110 => exact pa_nil
               case d111 => rfl
             case d106 =>
              with_reducible refine' pa_c ?d112 ?d113 ?d114
              case d112 =>
               with_reducible refine' pe_tup ?d115
               case d115 =>
                with_reducible refine' pa_c ?d116 ?d117 ?d118
                case d116 => exact pe_str
                case d117 =>
                 with_reducible refine' pa_c ?d119 ?d120 ?d121
                 case d119 => exact pe_str
                 case d120 => exact pa_nil
                 case d121 => rfl
                case d118 => rfl
              case d113 =>
               with_reducible refine' pa_c ?d122 ?d123 ?d124
               case d122 =>
                with_reducible refine' pe_tup ?d125
                case d125 =>
                 with_reducible refine' pa_c ?d126 ?d127 ?d128
                 case d126 => exact pe_str
                 case d127 => exact pa_nil
                 case d128 => rfl
               case d123 =>
                with_reducible refine' pa_c ?d129 ?d130 ?d131
                case d129 =>
                 with_reducible refine' pe_tup ?d132
                 case d132 =>
                  with_reducible refine' pa_c ?d133 ?d134 ?d135
                  case d133 => exact pe_str
                  case d134 => exact pa_nil
                  case d135 => rfl
                case d130 => exact pa_nil
                case d131 => rfl
               case d124 => rfl
              case d114 => rfl
             case d107 => rfl
            case d100 => rfl
           case d93 => rfl
          case d82 => rfl
         case d78 => rfl
        case d74 => rfl
     case d66 => rfl
     case d67 => rfl
    case d61 =>
     with_reducible refine' pss_cons ?d136 ?d137
     case d136 =>
      with_reducible refine' ps_setk (i := 1) ?d138 ?d139 ?d140 ?d141 ?d142 ?d143
      case d138 => exact sc__law_odd.nd
      case d139 => exact rfl
      case d140 => exact (Or.inl q__law_odd__law_some.lk)
      case d141 =>
       with_reducible refine' pe_op ?d144 ?d145 ?d146
       case d144 => exact op_addA
       case d145 => exact (pvk 1 q__law_odd__law_some (by rfl) (by rfl))
       case d146 =>
        with_reducible refine' pe_lst ?d147
        case d147 =>
         with_reducible refine' pa_c ?d148 ?d149 ?d150
         case d148 =>
          with_reducible refine' pe_tup ?d151
          case d151 =>
           with_reducible refine' pa_c ?d152 ?d153 ?d154
           case d152 => exact pe_str
           case d153 =>
            with_reducible refine' pa_c ?d155 ?d156 ?d157
            case d155 => exact pe_str
            case d156 =>
             with_reducible refine' pa_c ?d158 ?d159 ?d160
             case d158 =>
              with_reducible refine' pe_lst ?d161
              case d161 =>
               with_reducible refine' pa_c ?d162 ?d163 ?d164
               case d162 => exact pe_str
               case d163 => exact pa_nil
               case d164 => rfl
             case d159 => exact pa_nil
             case d160 => rfl
            case d157 => rfl
           case d154 => rfl
         case d149 =>
          with_reducible refine' pa_c ?d165 ?d166 ?d167
          case d165 =>
           with_reducible refine' pe_tup ?d168
           case d168 =>
            with_reducible refine' pa_c ?d169 ?d170 ?d171
            case d169 => exact pe_str
            case d170 =>
             with_reducible refine' pa_c ?d172 ?d173 ?d174
             case d172 =>
              with_reducible refine' pe_tup ?d175
              case d175 =>
               with_reducible refine' pa_c ?d176 ?d177 ?d178
               case d176 => exact pe_str
               case d177 => exact pa_nil
               case d178 => rfl
             case d173 => exact pa_nil
             case d174 => rfl
            case d171 => rfl
          case d166 =>
           with_reducible refine' pa_c ?d179 ?d180 ?d181
           case d179 =>
            with_reducible refine' pe_tup ?d182
            case d182 =>
             with_reducible refine' pa_c ?d183 ?d184 ?d185
             case d183 => exact pe_str
             case d184 =>
              with_reducible refine' pa_c ?d186 ?d187 ?d188
              case d186 =>
               with_reducible refine' pe_tup ?d189
               case d189 =>
                with_reducible refine' pa_c ?d190 ?d191 ?d192
                case d190 => exact pe_str
                case d191 => exact pa_nil
                case d192 => rfl
              case d187 =>
               with_reducible refine' pa_c ?d193 ?d194 ?d195
               case d193 =>
                with_reducible refine' pe_tup ?d196
                case d196 =>
                 with_reducible refine' pa_c ?d197 ?d198 ?d199
                 case d197 => exact pe_str
                 case d198 => exact pa_nil
                 case d199 => rfl
               case d194 =>
                with_reducible refine' pa_c ?d200 ?d201 ?d202
                case d200 =>
                 with_reducible refine' pe_tup ?d203
                 case d203 =>
                  with_reducible refine' pa_c ?d204 ?d205 ?d206
                  case d204 => exact pe_str
                  case d205 => exact pa_nil
                  case d206 => rfl
                case d201 => exact pa_nil
                case d202 => rfl
               case d195 => rfl
              case d188 => rfl
             case d185 => rfl
           case d180 => exact pa_nil
           case d181 => rfl
          case d167 => rfl
         case d150 => rfl
      case d142 => rfl
      case d143 => rfl
     case d137 =>
      with_reducible refine' pss_cons ?d207 ?d208
      case d207 =>
       with_reducible refine' ps_setk (i := 1) ?d209 ?d210 ?d211 ?d212 ?d213 ?d214
       case d209 => exact sc__law_odd.nd
       case d210 => exact rfl
       case d211 => exact (Or.inl q__law_odd__law_some.lk)
       case d212 =>
        with_reducible refine' pe_op ?d215 ?d216 ?d217
        case d215 => exact op_addA
        case d216 => exact (pvk 1 q__law_odd__law_some (by rfl) (by rfl))
        case d217 =>
         with_reducible refine' pe_lst ?d218
         case d218 =>
          with_reducible refine' pa_c ?d219 ?d220 ?d221
          case d219 =>
           with_reducible refine' pe_tup ?d222
           case d222 =>
            with_reducible refine' pa_c ?d223 ?d224 ?d225
            case d223 => exact pe_str
            case d224 =>
             with_reducible refine' pa_c ?d226 ?d227 ?d228
             case d226 =>
              with_reducible refine' pe_tup ?d229
              case d229 =>
               with_reducible refine' pa_c ?d230 ?d231 ?d232
               case d230 => exact pe_str
               case d231 => exact pa_nil
               case d232 => rfl
             case d227 =>
              with_reducible refine' pa_c ?d233 ?d234 ?d235
              case d233 => exact pe_int
              case d234 =>
               with_reducible refine' pa_c ?d236 ?d237 ?d238
               case d236 => exact pe_int
               case d237 => exact pa_nil
               case d238 => rfl
              case d235 => rfl
             case d228 => rfl
            case d225 => rfl
          case d220 =>
           with_reducible refine' pa_c ?d239 ?d240 ?d241
           case d239 =>
            with_reducible refine' pe_tup ?d242
            case d242 =>
             with_reducible refine' pa_c ?d243 ?d244 ?d245
             case d243 => exact pe_str
             case d244 =>
              with_reducible refine' pa_c ?d246 ?d247 ?d248
              case d246 =>
               with_reducible refine' pe_tup ?d249
               case d249 =>
                with_reducible refine' pa_c ?d250 ?d251 ?d252
                case d250 => exact pe_str
                case d251 => exact pa_nil
                case d252 => rfl
              case d247 =>
               with_reducible refine' pa_c ?d253 ?d254 ?d255
               case d253 => exact pe_int
               case d254 =>
                with_reducible refine' pa_c ?d256 ?d257 ?d258
                case d256 => exact pe_int
                case d257 => exact pa_nil
                case d258 => rfl
               case d255 => rfl
              case d248 => rfl
             case d245 => rfl
           case d240 =>
            with_reducible refine' pa_c ?d259 ?d260 ?d261
            case d259 =>
             with_reducible refine' pe_tup ?d262
             case d262 =>
              with_reducible refine' pa_c ?d263 ?d264 ?d265
              case d263 => exact pe_str
              case d264 =>
               with_reducible refine' pa_c ?d266 ?d267 ?d268
               case d266 =>
                with_reducible refine' pe_tup ?d269
                case d269 =>
                 with_reducible refine' pa_c ?d270 ?d271 ?d272
                 case d270 => exact pe_str
                 case d271 => exact pa_nil
                 case d272 => rfl
               case d267 =>
                with_reducible refine' pa_c ?d273 ?d274 ?d275
                case d273 => exact pe_bl
                case d274 =>
                 with_reducible refine' pa_c ?d276 ?d277 ?d278
                 case d276 => exact pe_int
                 case d277 => exact pa_nil
                 case d278 => rfl
                case d275 => rfl
               case d268 => rfl
              case d265 => rfl
            case d260 => exact pa_nil
            case d261 => rfl
           case d241 => rfl
          case d221 => rfl
       case d213 => rfl
       case d214 => rfl
      case d208 =>
       with_reducible refine' pss_cons ?d279 ?d280
       case d279 =>
        with_reducible refine' ps_setk (i := 1) ?d281 ?d282 ?d283 ?d284 ?d285 ?d286
        case d281 => exact sc__law_odd.nd
        case d282 => exact rfl
        case d283 => exact (Or.inl q__law_odd__law_some.lk)
        case d284 =>
         with_reducible refine' pe_op ?d287 ?d288 ?d289
         case d287 => exact op_addA
         case d288 => exact (pvk 1 q__law_odd__law_some (by rfl) (by rfl))
         case d289 =>
          with_reducible refine' pe_lst ?d290
          case d290 =>
           with_reducible refine' pa_c ?d291 ?d292 ?d293
           case d291 =>
            with_reducible refine' pe_tup ?d294
            case d294 =>
             with_reducible refine' pa_c ?d295 ?d296 ?d297
             case d295 => exact pe_str
             case d296 =>
              with_reducible refine' pa_c ?d298 ?d299 ?d300
              case d298 =>
               with_reducible refine' pe_tup ?d301
               case d301 =>
                with_reducible refine' pa_c ?d302 ?d303 ?d304
                case d302 => exact pe_str
                case d303 => exact pa_nil
                case d304 => rfl
              case d299 =>
               with_reducible refine' pa_c ?d305 ?d306 ?d307
               case d305 => exact pe_int
               case d306 =>
                with_reducible refine' pa_c ?d308 ?d309 ?d310
                case d308 => exact pe_int
                case d309 => exact pa_nil
                case d310 => rfl
               case d307 => rfl
              case d300 => rfl
             case d297 => rfl
           case d292 =>
            with_reducible refine' pa_c ?d311 ?d312 ?d313
            case d311 =>
             with_reducible refine' pe_tup ?d314
             case d314 =>
              with_reducible refine' pa_c ?d315 ?d316 ?d317
              case d315 => exact pe_str
              case d316 =>
               with_reducible refine' pa_c ?d318 ?d319 ?d320
               case d318 =>
                with_reducible refine' pe_tup ?d321
                case d321 =>
                 with_reducible refine' pa_c ?d322 ?d323 ?d324
                 case d322 => exact pe_str
                 case d323 => exact pa_nil
                 case d324 => rfl
               case d319 =>
                with_reducible refine' pa_c ?d325 ?d326 ?d327
                case d325 => exact pe_str
                case d326 =>
                 with_reducible refine' pa_c ?d328 ?d329 ?d330
                 case d328 => exact pe_int
                 case d329 => exact pa_nil
                 case d330 => rfl
                case d327 => rfl
               case d320 => rfl
              case d317 => rfl
            case d312 =>
             with_reducible refine' pa_c ?d331 ?d332 ?d333
             case d331 =>
              with_reducible refine' pe_tup ?d334
              case d334 =>
               with_reducible refine' pa_c ?d335 ?d336 ?d337
               case d335 => exact pe_str
               case d336 =>
                with_reducible refine' pa_c ?d338 ?d339 ?d340
                case d338 => exact pe_int
                case d339 =>
                 with_reducible refine' pa_c ?d341 ?d342 ?d343
                 case d341 => exact pe_str
                 case d342 => exact pa_nil
                 case d343 => rfl
                case d340 => rfl
               case d337 => rfl
             case d332 =>
              with_reducible refine' pa_c ?d344 ?d345 ?d346
              case d344 =>
               with_reducible refine' pe_tup ?d347
               case d347 =>
                with_reducible refine' pa_c ?d348 ?d349 ?d350
                case d348 => exact pe_non
                case d349 => exact pa_nil
                case d350 => rfl
              case d345 =>
               with_reducible refine' pa_c ?d351 ?d352 ?d353
               case d351 =>
                with_reducible refine' pe_tup ?d354
                case d354 =>
                 with_reducible refine' pa_c ?d355 ?d356 ?d357
                 case d355 =>
                  with_reducible refine' pe_tup ?d358
                  case d358 => exact pa_nil
                 case d356 => exact pa_nil
                 case d357 => rfl
               case d352 => exact pa_nil
               case d353 => rfl
              case d346 => rfl
             case d333 => rfl
            case d313 => rfl
           case d293 => rfl
        case d285 => rfl
        case d286 => rfl
       case d280 =>
        with_reducible refine' pss_one ?d359
        case d359 =>
         with_reducible refine' ps_ret ?d360
         case d360 =>
          with_reducible refine' pe_ix ?d361 ?d362 ?d363 ?d364
          case d361 => exact ix_any
          case d362 => exact (pvk 1 q__law_odd__law_some (by rfl) (by rfl))
          case d363 =>
           with_reducible refine' pe_callk ?d365 ?d366 ?d367 ?d368 ?d369 ?d370 ?d371 ?d372 ?d373 ?d374 ?d375
           case d365 => exact G__law_take
           case d366 => exact (hr.mono (by omega))
           case d367 => exact q__law_odd__law_take
           case d368 => exact T.m__law_take
           case d369 => exact T.F__law_take.kp
           case d370 => exact T.b__law_take
           case d371 => exact .nil
           case d372 => exact pass0
           case d373 =>
            with_reducible refine' pa_c ?d376 ?d377 ?d378
            case d376 => exact (pvk 0 q__law_odd__law_hand_here (by rfl) (by rfl))
            case d377 =>
             with_reducible refine' pa_c ?d379 ?d380 ?d381
             case d379 => exact pe_int
             case d380 => exact pa_nil
             case d381 => rfl
            case d378 => rfl
           case d374 => rfl
           case d375 => rfl
          case d364 => exact (fun _ _ => rfl)
  walk_at "vs"
  refine ⟨small (by simp), fun l1 h1 => ?_⟩
  have s1 : Same H (upd H l1 (.lst [V.non, V.bl true, V.bl false, V.int 0, V.int (-1), V.int 7, V.int 3, V.str (Str.ofString ""), V.str (Str.ofString "a"), V.str (Str.ofString "forth"), V.str (Str.ofString "step"), V.str (Str.ofString "Forth"), V.str (Str.ofString "knowsknow"), V.str (Str.ofString "a b"), V.str (Str.ofString "Kn"), V.str (Str.ofString "ab1")])) := same_new h1 _
  have e1 : upd H l1 (.lst [V.non, V.bl true, V.bl false, V.int 0, V.int (-1), V.int 7, V.int 3, V.str (Str.ofString ""), V.str (Str.ofString "a"), V.str (Str.ofString "forth"), V.str (Str.ofString "step"), V.str (Str.ofString "Forth"), V.str (Str.ofString "knowsknow"), V.str (Str.ofString "a b"), V.str (Str.ofString "Kn"), V.str (Str.ofString "ab1")]) l1 = some (.lst [V.non, V.bl true, V.bl false, V.int 0, V.int (-1), V.int 7, V.int 3, V.str (Str.ofString ""), V.str (Str.ofString "a"), V.str (Str.ofString "forth"), V.str (Str.ofString "step"), V.str (Str.ofString "Forth"), V.str (Str.ofString "knowsknow"), V.str (Str.ofString "a b"), V.str (Str.ofString "Kn"), V.str (Str.ofString "ab1")]) := upd_same
  have o1 : Odds (upd H l1 (.lst [V.non, V.bl true, V.bl false, V.int 0, V.int (-1), V.int 7, V.int 3, V.str (Str.ofString ""), V.str (Str.ofString "a"), V.str (Str.ofString "forth"), V.str (Str.ofString "step"), V.str (Str.ofString "Forth"), V.str (Str.ofString "knowsknow"), V.str (Str.ofString "a b"), V.str (Str.ofString "Kn"), V.str (Str.ofString "ab1")])) [V.non, V.bl true, V.bl false, V.int 0, V.int (-1), V.int 7, V.int 3, V.str (Str.ofString ""), V.str (Str.ofString "a"), V.str (Str.ofString "forth"), V.str (Str.ofString "step"), V.str (Str.ofString "Forth"), V.str (Str.ofString "knowsknow"), V.str (Str.ofString "a b"), V.str (Str.ofString "Kn"), V.str (Str.ofString "ab1")] := by walk_at "od"
  have n1 : [V.non, V.bl true, V.bl false, V.int 0, V.int (-1), V.int 7, V.int 3, V.str (Str.ofString ""), V.str (Str.ofString "a"), V.str (Str.ofString "forth"), V.str (Str.ofString "step"), V.str (Str.ofString "Forth"), V.str (Str.ofString "knowsknow"), V.str (Str.ofString "a b"), V.str (Str.ofString "Kn"), V.str (Str.ofString "ab1")].length = 16 := rfl
  generalize [V.non, V.bl true, V.bl false, V.int 0, V.int (-1), V.int 7, V.int 3, V.str (Str.ofString ""), V.str (Str.ofString "a"), V.str (Str.ofString "forth"), V.str (Str.ofString "step"), V.str (Str.ofString "Forth"), V.str (Str.ofString "knowsknow"), V.str (Str.ofString "a b"), V.str (Str.ofString "Kn"), V.str (Str.ofString "ab1")] = ys1 at s1 e1 o1 n1 ⊢
  generalize upd H l1 (.lst ys1) = H1 at s1 e1 o1 ⊢
  repeat (first | walk_at "v" | (refine ⟨small (by simp), fun _ _ => ?_⟩))
  refine v_addOdd H1 (by walk_at "same") (by walk_at "hg") (by walk_at "hg") (o1.same (by walk_at "same")) (by walk_at "od") (by rw [n1]; simp) fun l2 ys2 H2 s2 e2 n2 o2 => ?_
  rw [n1] at n2
  simp only [List.length_cons, List.length_nil] at n2
  repeat (first | walk_at "v" | (refine ⟨small (by simp), fun _ _ => ?_⟩))
  refine v_addOdd H2 (by walk_at "same") (by walk_at "hg") (by walk_at "hg") (o2.same (by walk_at "same")) (by walk_at "od") (by rw [n2]; simp) fun l3 ys3 H3 s3 e3 n3 o3 => ?_
  rw [n2] at n3
  simp only [List.length_cons, List.length_nil] at n3
  repeat (first | walk_at "v" | (refine ⟨small (by simp), fun _ _ => ?_⟩))
  refine v_addOdd H3 (by walk_at "same") (by walk_at "hg") (by walk_at "hg") (o3.same (by walk_at "same")) (by walk_at "od") (by rw [n3]; simp) fun l4 ys4 H4 s4 e4 n4 o4 => ?_
  rw [n3] at n4
  simp only [List.length_cons, List.length_nil] at n4
  repeat (first | walk_at "v" | (refine ⟨small (by simp), fun _ _ => ?_⟩))
  refine v_addOdd H4 (by walk_at "same") (by walk_at "hg") (by walk_at "hg") (o4.same (by walk_at "same")) (by walk_at "od") (by rw [n4]; simp) fun l5 ys5 H5 s5 e5 n5 o5 => ?_
  rw [n4] at n5
  simp only [List.length_cons, List.length_nil] at n5
  have sA := (((s1.trans s2).trans s3).trans s4).trans s5
  walk_at "vs"
  have hh5 := hh.same sA
  refine use_take hh5 (by decide) (by decide) (by omega) fun r H6 h60 h61 hh6 kb6 => ?_
  have nl : l5 ≠ p := by
    rintro rfl
    obtain ⟨a, b, m, hp, _⟩ := hh5
    rw [e5] at hp
    have : ys5 = [V.int a, V.int b, V.int m] := by injection hp with hp; injection hp
    rw [this] at n5
    simp at n5
  refine v_ixAny (kb6 _ _ e5 nl) h60 (by omega) fun v hv => ?_
  obtain ⟨d, hd, hf⟩ := o5 v hv
  exact k v d H6 (hd.keepT hh5 kb6 hf.2.1) hf hh6 (sA.kb.trans kb6)
end
end K14

set_option Elab.async false
set_option linter.all false
set_option maxRecDepth 100000
set_option maxHeartbeats 8000000
namespace K14
open PySem L2
local macro_rules | `(tactic| walk_at "as") => `(tactic| with_reducible assumption)
local macro_rules | `(tactic| walk_at "hand") => `(tactic| first | walk_at "as" | (with_reducible refine' Hand.new ?hdx ?hdy; (case hdy => walk_at "as"); (case hdx => walk_at "hand")))
local macro_rules | `(tactic| walk_at "same") => `(tactic| first | with_reducible exact Same.refl _ | walk_at "as" | (with_reducible refine' Same.trans ?smx (same_new ?smy _); (case smy => walk_at "as"); (case smx => walk_at "same")))
local macro_rules | `(tactic| walk_at "ne") => `(tactic| first | walk_at "as" | (apply Ne.symm; walk_at "as"))
local macro_rules | `(tactic| walk_at "hg") => `(tactic| first | with_reducible exact upd_same | walk_at "as" | (with_reducible refine' upd_new ?hgx ?hgy; (case hgy => walk_at "as"); (case hgx => walk_at "hg")) | (with_reducible refine' Eq.trans (upd_ne ?hgn) ?hgx; (case hgn => walk_at "ne"); (case hgx => walk_at "hg")))
local macro_rules | `(tactic| walk_at "v") => `(tactic| (with_reducible first
  | refine iteT ?_ | refine iteF ?_ | refine v_iteNT ?_ | refine v_iteNF ?_ | refine v_abs ?_ | refine v_seq ?_ | refine v_asg ?_ | refine v_ifS ?_ | refine v_ret ?_ | refine v_retN ?_ | refine v_next ?_ | refine v_break ?_ | refine v_cont ?_ | refine v_drop ?_ | refine v_name ?_ | refine v_gsub ?_
  | refine v_C ?_ | refine v_op ?_ | refine v_un ?_ | refine v_neg ?_ | refine v_test ?_ | refine v_tB ?_ | refine v_bl ?_ | refine v_or ?_ | refine v_and ?_ | refine v_not ?_ | refine v_andV ?_ | refine v_orV ?_ | refine v_notV ?_ | refine v_if ?_ | refine v_chain ?_
  | refine v_call ?_ | refine v_CB ?_ | refine v_cons ?_ | refine v_nil ?_ | refine v_lst ?_ | refine v_tup ?_ | refine v_sl ?_ | refine v_noPart ?_ | refine v_part ?_ | refine v_int ?_ | refine v_bm ?_ | refine v_true ?_
  | refine v_rI0 ?_ | refine v_addI ?_ | refine v_ltI ?_ | refine v_leI ?_ | refine v_gtI ?_ | refine v_geI ?_ | refine v_ltS ?_ | refine v_leS ?_ | refine v_gtS ?_ | refine v_geS ?_
  | refine v_eqI ?_ | refine v_eqS ?_ | refine v_eqB ?_ | refine v_neI ?_ | refine v_neS ?_ | refine v_neB ?_ | refine v_isB ?_ | refine v_isN ?_ | refine v_comp ?_ | refine v_iR1 ?_ | refine v_iStr ?_ | refine v_iStr' ?_ | refine v_iL ?_
  | (refine' v_var ?hv ?_; (case hv => with_unfolding_all rfl))
  | (refine' v_ixL ?h1 ?h2 ?_; (case h1 => walk_at "hg"); (case h2 => with_unfolding_all rfl))
  | (refine' v_ixT ?h1 ?h2 ?_; (case h1 => walk_at "hg"); (case h2 => with_unfolding_all rfl))
  | (refine' v_setL ?h1 ?h2 ?_; (case h1 => walk_at "hg"); (case h2 => with_unfolding_all rfl))
  | (refine' v_lenL ?h1 ?_; (case h1 => walk_at "hg"))
  | (refine' v_lenT ?h1 ?_; (case h1 => walk_at "hg"))
  | (refine v_instT ?h1 ?h2 ?h3 ?_; (case h1 => (simp [tyName, instB, *]; done)); (case h2 => (simp [tyName, *]; done)); (case h3 => (simp; done)))
  | (refine v_instF ?h1 ?h2 ?h3 ?_; (case h1 => (simp [tyName, instB, *]; done)); (case h2 => (simp [tyName, *]; done)); (case h3 => (simp; done)))
  | (refine v_mulI ?h1 ?_; (case h1 => (unfold CMul; omega)))
  | (refine v_rI ?h1 ?_; (case h1 => first | omega | (unfold CDiv; omega) | (unfold CPow; omega)))))
local macro_rules | `(tactic| walk_at "v2") => `(tactic| (with_reducible first | refine v_isNotB ?_ | refine v_isNotN ?_ | refine v_disp ?_ | refine v_pcons ?_ | refine v_pnil ?_ | refine v_dget2 ?_ | refine v_iT ?_ | refine v_chain3 ?_ | refine v_inSign ?_))
local macro_rules | `(tactic| walk_at "w") => `(tactic| repeat (first | walk_at "v" | walk_at "v2"))
local macro_rules | `(tactic| walk_at "vs") => `(tactic| repeat (walk_at "v"))
section
variable {P : Program} {w : World} {K : PySem.W.Frag} {mg : Str → Option Value} {base : Heap} {t : Adr}
theorem cut_init {xs : List V} : cutV xs none (some (-1)) = xs.take (xs.length - 1) := by
  unfold cutV
  have e : HT.sIx xs.length xs.length (some (-1)) = xs.length - 1 := by
    show (if (-1 : Int) < 0 then ((-1 : Int) + (xs.length : Int)).toNat else min (-1 : Int).toNat xs.length) = _
    rw [if_pos (by decide)]
    omega
  rw [e, HT.sIx_none]
  simp
theorem v_slInit {H : Hp} {Q : VK} {v : V} {ds : List D} (h : Rep H (.tup ds) v) (q : ∀ v' H', Same H H' → Rep H' (.tup (ds.take (ds.length - 1))) v' → Q v' H') : rSlTA v none (some (-1)) H Q := by
  obtain ⟨a, xs, rfl, e, hs⟩ := h
  refine v_slTA e fun p H' s e' _ => q _ H' s ⟨p, _, rfl, e', ?_⟩
  rw [cut_init, ← hs.length]
  exact reps_take _ (hs.same s)
theorem wts_mem : ∀ {ds : List D} {j : Nat} {d : D}, wts ds = true → ds[j]? = some d → wt d = true
  | [], j, d, _, h => by simp at h
  | e :: ds, 0, d, h, hj => by
    simp [wts] at h
    simp at hj
    subst hj
    exact h.1
  | e :: ds, j + 1, d, h, hj => by
    simp [wts] at h
    exact wts_mem h.2 (by simpa using hj)
def spSpoilt (n : Nat) : Sp := fun vs H Q _ => ∃ (p : Addr) (c : Int) (v : V) (d : D) (k : Nat), vs = [.ref p, v] ∧ k < n ∧ k ≤ 50 ∧ Hd H p c ∧ c + 5 * (k : Int) < 800000000 ∧ Rep H d v ∧ wt d = true ∧ d.fin k ∧
  ∀ (v' : V) (d' : D) H', Rep H' d' v' → d'.fin (k + 4) → Hd H' p (c + 5 * (k : Int) + 5) → KeepBut p H H' → Q v' H'
theorem ok__law_spoilt (T : Txt K mg t) : ∀ n : Nat, FnOk P w K mg base CX0 (n + 3) t.f__law_spoilt t.d__law_spoilt ["_law_hand_here", "_law_thing"] (spSpoilt n)
  | 0 => by
    have none : ∀ vs H Q E, ¬ spSpoilt 0 vs H Q E := fun vs H Q E h => by
      obtain ⟨p, c, v, d, k, _, h, _⟩ := h
      exact absurd h (Nat.not_lt_zero _)
    exact ⟨fun vs H Q E h => absurd h (none vs H Q E), fun A outer s H args us vs Q E _ _ _ _ h => absurd h (none vs H Q E)⟩
  | n + 1 => by
    have G__law_spoilt : FnOk P w K mg base CX0 (n + 3) t.f__law_spoilt t.d__law_spoilt ["_law_hand_here", "_law_thing"] (spSpoilt n) := ok__law_spoilt T n
    have G__law_take : FnOk P w K mg base CX0 1 t.f__law_take t.d__law_take ["_law_hand_here", "_law_many"] spTake := ok_take T
    have G__law_odd : FnOk P w K mg base CX0 2 t.f__law_odd t.d__law_odd ["_law_hand_here"] spOdd := ok__law_odd T
    refine T.F__law_spoilt.ok sc__law_spoilt (fun vs H Q E h => ?_) (fun cdv A outer s H vs Q E hr h => ?_)
    · obtain ⟨p, c, v, d, k, rfl, _⟩ := h
      rfl
    obtain ⟨p, c, v, d, kk, rfl, hkn, hk50, hh, hc, hv, hwt, hf, k⟩ := h
    refine' ⟨_, ?der, ?_⟩
    case der =>
     conv => arg 2; whnf
     with_reducible refine' pss_cons ?d1 ?d2
     case d1 =>
      with_reducible refine' ps_if ?d3 ?d4 ?d5
      case d3 =>
       with_reducible refine' PW.pt ?d6
       case d6 =>
        with_reducible refine' pw_or ?d7 ?d8
        case d7 =>
         with_reducible refine' pt_not ?d9
         case d9 =>
          with_reducible refine' pt_val ?d10 ?d11
          case d10 =>
           with_reducible refine' pe_callBk ?d12 ?d13 ?d14 ?d15 ?d16 ?d17 ?d18
           case d12 => exact call_inst
           case d13 => exact q__law_spoilt_isinstance
           case d14 => exact T.z_isinstance
           case d15 => exact PyProof.Rows.boot_isinstance
           case d16 =>
            with_reducible refine' pa_c ?d19 ?d20 ?d21
            case d19 => exact (pvk 1 q__law_spoilt__law_thing (by rfl) (by rfl))
            case d20 =>
             with_reducible refine' pa_c ?d22 ?d23 ?d24
             case d22 =>
              with_reducible refine' pe_bltnk (v := .ty "tuple") ?d25 ?d26 ?d27 ?d28
              case d25 => exact q__law_spoilt_tuple
              case d26 => exact T.z_tuple
              case d27 => rfl
              case d28 => exact rfl
             case d23 => exact pa_nil
             case d24 => rfl
            case d21 => rfl
           case d17 => rfl
           case d18 => rfl
          case d11 => (intro _; rfl)
        case d8 =>
         with_reducible refine' pw_or ?d29 ?d30
         case d29 =>
          with_reducible refine' pt_cmpR ?d31 ?d32 ?d33 ?d34
          case d31 => exact (op_eqD (hu150 hr))
          case d32 => exact (pvk 1 q__law_spoilt__law_thing (by rfl) (by rfl))
          case d33 =>
           with_reducible refine' pe_tup ?d35
           case d35 => exact pa_nil
          case d34 => exact (nomark _)
         case d30 =>
          with_reducible refine' pw_or1 ?d36
          case d36 =>
           with_reducible refine' pt_cmpR ?d37 ?d38 ?d39 ?d40
           case d37 => exact op_eq
           case d38 =>
            with_reducible refine' pe_callk ?d41 ?d42 ?d43 ?d44 ?d45 ?d46 ?d47 ?d48 ?d49 ?d50 ?d51
            case d41 => exact G__law_take
            case d42 => exact (hr.mono (by omega))
            case d43 => exact q__law_spoilt__law_take
            case d44 => exact T.m__law_take
            case d45 => exact T.F__law_take.kp
            case d46 => exact T.b__law_take
            case d47 => exact .nil
            case d48 => exact pass0
            case d49 =>
             with_reducible refine' pa_c ?d52 ?d53 ?d54
             case d52 => exact (pvk 0 q__law_spoilt__law_hand_here (by rfl) (by rfl))
             case d53 =>
              with_reducible refine' pa_c ?d55 ?d56 ?d57
              case d55 => exact pe_int
              case d56 => exact pa_nil
              case d57 => rfl
             case d54 => rfl
            case d50 => rfl
            case d51 => rfl
           case d39 => exact pe_int
           case d40 => exact (nomark _)
      case d4 =>
       with_reducible refine' pss_one ?d58
       case d58 =>
        with_reducible refine' ps_ret ?d59
        case d59 =>
         with_reducible refine' pe_callk ?d60 ?d61 ?d62 ?d63 ?d64 ?d65 ?d66 ?d67 ?d68 ?d69 ?d70
         case d60 => exact G__law_odd
         case d61 => exact (hr.mono (by omega))
         case d62 => exact q__law_spoilt__law_odd
         case d63 => exact T.m__law_odd
         case d64 => exact T.F__law_odd.kp
         case d65 => exact T.b__law_odd
         case d66 => exact .nil
         case d67 => exact pass0
         case d68 =>
          with_reducible refine' pa_c ?d71 ?d72 ?d73
          case d71 => exact (pvk 0 q__law_spoilt__law_hand_here (by rfl) (by rfl))
          case d72 => exact pa_nil
          case d73 => rfl
         case d69 => rfl
         case d70 => rfl
      case d5 => exact pss_nil
     case d2 =>
      with_reducible refine' pss_cons ?d74 ?d75
      case d74 =>
       with_reducible refine' ps_setk (i := 2) ?d76 ?d77 ?d78 ?d79 ?d80 ?d81
       case d76 => exact sc__law_spoilt.nd
       case d77 => exact rfl
       case d78 => exact (Or.inl q__law_spoilt__law_how.lk)
       case d79 =>
        with_reducible refine' pe_callk ?d82 ?d83 ?d84 ?d85 ?d86 ?d87 ?d88 ?d89 ?d90 ?d91 ?d92
        case d82 => exact G__law_take
        case d83 => exact (hr.mono (by omega))
        case d84 => exact q__law_spoilt__law_take
        case d85 => exact T.m__law_take
        case d86 => exact T.F__law_take.kp
        case d87 => exact T.b__law_take
        case d88 => exact .nil
        case d89 => exact pass0
        case d90 =>
         with_reducible refine' pa_c ?d93 ?d94 ?d95
         case d93 => exact (pvk 0 q__law_spoilt__law_hand_here (by rfl) (by rfl))
         case d94 =>
          with_reducible refine' pa_c ?d96 ?d97 ?d98
          case d96 => exact pe_int
          case d97 => exact pa_nil
          case d98 => rfl
         case d95 => rfl
        case d91 => rfl
        case d92 => rfl
       case d80 => rfl
       case d81 => rfl
      case d75 =>
       with_reducible refine' pss_cons ?d99 ?d100
       case d99 =>
        with_reducible refine' ps_if ?d101 ?d102 ?d103
        case d101 =>
         with_reducible refine' pt_cmpR ?d104 ?d105 ?d106 ?d107
         case d104 => exact op_eq
         case d105 => exact (pvk 2 q__law_spoilt__law_how (by rfl) (by rfl))
         case d106 => exact pe_int
         case d107 => exact (nomark _)
        case d102 =>
         with_reducible refine' pss_one ?d108
         case d108 =>
          with_reducible refine' ps_ret ?d109
          case d109 =>
           with_reducible refine' pe_op ?d110 ?d111 ?d112
           case d110 => exact op_catA
           case d111 => exact (pvk 1 q__law_spoilt__law_thing (by rfl) (by rfl))
           case d112 =>
            with_reducible refine' pe_tup ?d113
            case d113 =>
             with_reducible refine' pa_c ?d114 ?d115 ?d116
             case d114 =>
              with_reducible refine' pe_callk ?d117 ?d118 ?d119 ?d120 ?d121 ?d122 ?d123 ?d124 ?d125 ?d126 ?d127
              case d117 => exact G__law_odd
              case d118 => exact (hr.mono (by omega))
              case d119 => exact q__law_spoilt__law_odd
              case d120 => exact T.m__law_odd
              case d121 => exact T.F__law_odd.kp
              case d122 => exact T.b__law_odd
              case d123 => exact .nil
              case d124 => exact pass0
              case d125 =>
               with_reducible refine' pa_c ?d128 ?d129 ?d130
               case d128 => exact (pvk 0 q__law_spoilt__law_hand_here (by rfl) (by rfl))
               case d129 => exact pa_nil
               case d130 => rfl
              case d126 => rfl
              case d127 => rfl
             case d115 => exact pa_nil
             case d116 => rfl
        case d103 => exact pss_nil
       case d100 =>
        with_reducible refine' pss_cons ?d131 ?d132
        case d131 =>
         with_reducible refine' ps_if ?d133 ?d134 ?d135
         case d133 =>
          with_reducible refine' pt_cmpR ?d136 ?d137 ?d138 ?d139
          case d136 => exact op_eq
          case d137 => exact (pvk 2 q__law_spoilt__law_how (by rfl) (by rfl))
          case d138 => exact pe_int
          case d139 => exact (nomark _)
         case d134 =>
          with_reducible refine' pss_one ?d140
          case d140 =>
           with_reducible refine' ps_ret ?d141
           case d141 =>
            with_reducible refine' pe_slice ?d142 ?d143 ?d144 ?d145
            case d142 => exact sl_tupA
            case d143 => exact (pvk 1 q__law_spoilt__law_thing (by rfl) (by rfl))
            case d144 => exact po_none
            case d145 =>
             with_reducible refine' po_some ?d146
             case d146 =>
              with_reducible refine' pe_un ?d147 ?d148
              case d147 => exact un_neg
              case d148 => exact pe_int
         case d135 => exact pss_nil
        case d132 =>
         with_reducible refine' pss_cons ?d149 ?d150
         case d149 =>
          with_reducible refine' ps_if ?d151 ?d152 ?d153
          case d151 =>
           with_reducible refine' pt_cmpR ?d154 ?d155 ?d156 ?d157
           case d154 => exact op_eq
           case d155 => exact (pvk 2 q__law_spoilt__law_how (by rfl) (by rfl))
           case d156 => exact pe_int
           case d157 => exact (nomark _)
          case d152 =>
           with_reducible refine' pss_one ?d158
           case d158 =>
            with_reducible refine' ps_ret ?d159
            case d159 =>
             with_reducible refine' pe_callTyk ?d160 ?d161 ?d162 ?d163 ?d164 ?d165 ?d166
             case d160 => exact call_list_of
             case d161 => exact q__law_spoilt_list
             case d162 => exact T.z_list
             case d163 => rfl
             case d164 =>
              with_reducible refine' pa_c ?d167 ?d168 ?d169
              case d167 => exact (pvk 1 q__law_spoilt__law_thing (by rfl) (by rfl))
              case d168 => exact pa_nil
              case d169 => rfl
             case d165 => rfl
             case d166 => rfl
          case d153 => exact pss_nil
         case d150 =>
          with_reducible refine' pss_cons ?d170 ?d171
          case d170 =>
           with_reducible refine' ps_setk (i := 3) ?d172 ?d173 ?d174 ?d175 ?d176 ?d177
           case d172 => exact sc__law_spoilt.nd
           case d173 => exact rfl
           case d174 => exact (Or.inl q__law_spoilt__law_at.lk)
           case d175 =>
            with_reducible refine' pe_callk ?d178 ?d179 ?d180 ?d181 ?d182 ?d183 ?d184 ?d185 ?d186 ?d187 ?d188
            case d178 => exact G__law_take
            case d179 => exact (hr.mono (by omega))
            case d180 => exact q__law_spoilt__law_take
            case d181 => exact T.m__law_take
            case d182 => exact T.F__law_take.kp
            case d183 => exact T.b__law_take
            case d184 => exact .nil
            case d185 => exact pass0
            case d186 =>
             with_reducible refine' pa_c ?d189 ?d190 ?d191
             case d189 => exact (pvk 0 q__law_spoilt__law_hand_here (by rfl) (by rfl))
             case d190 =>
              with_reducible refine' pa_c ?d192 ?d193 ?d194
              case d192 =>
               with_reducible refine' pe_callBk ?d195 ?d196 ?d197 ?d198 ?d199 ?d200 ?d201
               case d195 => exact call_lenA
               case d196 => exact q__law_spoilt_len
               case d197 => exact T.z_len
               case d198 => exact PySem.boot_len
               case d199 =>
                with_reducible refine' pa_c ?d202 ?d203 ?d204
                case d202 => exact (pvk 1 q__law_spoilt__law_thing (by rfl) (by rfl))
                case d203 => exact pa_nil
                case d204 => rfl
               case d200 => rfl
               case d201 => rfl
              case d193 => exact pa_nil
              case d194 => rfl
             case d191 => rfl
            case d187 => rfl
            case d188 => rfl
           case d176 => rfl
           case d177 => rfl
          case d171 =>
           with_reducible refine' pss_cons ?d205 ?d206
           case d205 =>
            with_reducible refine' ps_setk (i := 4) ?d207 ?d208 ?d209 ?d210 ?d211 ?d212
            case d207 => exact sc__law_spoilt.nd
            case d208 => exact rfl
            case d209 => exact (Or.inl q__law_spoilt__law_part.lk)
            case d210 =>
             with_reducible refine' pe_callk ?d213 ?d214 ?d215 ?d216 ?d217 ?d218 ?d219 ?d220 ?d221 ?d222 ?d223
             case d213 => exact G__law_spoilt
             case d214 => exact (hr.mono (by omega))
             case d215 => exact q__law_spoilt__law_spoilt
             case d216 => exact T.m__law_spoilt
             case d217 => exact T.F__law_spoilt.kp
             case d218 => exact T.b__law_spoilt
             case d219 => exact .nil
             case d220 => exact pass0
             case d221 =>
              with_reducible refine' pa_c ?d224 ?d225 ?d226
              case d224 => exact (pvk 0 q__law_spoilt__law_hand_here (by rfl) (by rfl))
              case d225 =>
               with_reducible refine' pa_c ?d227 ?d228 ?d229
               case d227 =>
                with_reducible refine' pe_ix ?d230 ?d231 ?d232 ?d233
                case d230 => exact ix_any
                case d231 => exact (pvk 1 q__law_spoilt__law_thing (by rfl) (by rfl))
                case d232 => exact (pvk 3 q__law_spoilt__law_at (by rfl) (by rfl))
                case d233 => exact (fun _ _ => rfl)
               case d228 => exact pa_nil
               case d229 => rfl
              case d226 => rfl
             case d222 => rfl
             case d223 => rfl
            case d211 => rfl
            case d212 => rfl
           case d206 =>
            with_reducible refine' pss_one ?d234
            case d234 =>
             with_reducible refine' ps_ret ?d235
             case d235 =>
              with_reducible refine' pe_op ?d236 ?d237 ?d238
              case d236 => exact op_catA
              case d237 =>
               with_reducible refine' pe_op ?d239 ?d240 ?d241
               case d239 => exact op_catA
               case d240 =>
                with_reducible refine' pe_slice ?d242 ?d243 ?d244 ?d245
                case d242 => exact sl_tupA
                case d243 => exact (pvk 1 q__law_spoilt__law_thing (by rfl) (by rfl))
                case d244 => exact po_none
                case d245 =>
                 with_reducible refine' po_some ?d246
                 case d246 => exact (pvk 3 q__law_spoilt__law_at (by rfl) (by rfl))
               case d241 =>
                with_reducible refine' pe_tup ?d247
                case d247 =>
                 with_reducible refine' pa_c ?d248 ?d249 ?d250
                 case d248 => exact (pvk 4 q__law_spoilt__law_part (by rfl) (by rfl))
                 case d249 => exact pa_nil
                 case d250 => rfl
              case d238 =>
               with_reducible refine' pe_slice ?d251 ?d252 ?d253 ?d254
               case d251 => exact sl_tupA
               case d252 => exact (pvk 1 q__law_spoilt__law_thing (by rfl) (by rfl))
               case d253 =>
                with_reducible refine' po_some ?d255
                case d255 =>
                 with_reducible refine' pe_op ?d256 ?d257 ?d258
                 case d256 => exact op_addA
                 case d257 => exact (pvk 3 q__law_spoilt__law_at (by rfl) (by rfl))
                 case d258 => exact pe_int
               case d254 => exact po_none
    have odd : ∀ {H1 : Hp} {c1 : Int} {QQ : VK} {EE : XK}, Hd H1 p c1 → c1 ≤ c + 5 * (kk : Int) + 4 → KeepBut p H H1 → (∀ v' H', Q v' H' → QQ v' H') → spOdd ([.ref p] ++ []) H1 QQ EE := fun {H1 c1 QQ EE} hh1 hc1 kb1 hq =>
      ⟨p, c1, rfl, hh1, by omega, fun v' d' H' hv' hf' hh' kb' => hq _ _ (k v' d' H' hv' (fin_mono hf' (by omega)) (hh'.mono (by omega)) (kb1.trans kb'))⟩
    cases d with
    | non => cases (show v = .non from hv); walk_at "w"; exact odd hh (by omega) KeepBut.refl fun _ _ q => q
    | bl b => cases (show v = .bl b from hv); walk_at "w"; exact odd hh (by omega) KeepBut.refl fun _ _ q => q
    | int b => cases (show v = .int b from hv); walk_at "w"; exact odd hh (by omega) KeepBut.refl fun _ _ q => q
    | str b => cases (show v = .str b from hv); walk_at "w"; exact odd hh (by omega) KeepBut.refl fun _ _ q => q
    | lst ds => cases hwt
    | tup ds0 =>
      obtain ⟨z, ps, rfl⟩ : ∃ z ps, ds0 = .str z :: ps := by
        cases ds0 with
        | nil => cases hwt
        | cons w ps => cases w <;> first | exact ⟨_, _, rfl⟩ | cases hwt
      have hwt' : ps.length ≤ 3 ∧ wts ps = true := by simpa [wt] using hwt
      have hwts : wts (.str z :: ps) = true := by simp [wts, wt, hwt'.2]
      have hln : (D.str z :: ps).length ≤ 4 := by simp; omega
      have hl1 : 1 ≤ (D.str z :: ps).length := by simp
      have hdq : deq (.tup (.str z :: ps)) (.tup []) = false := by simp [deq, deqs]
      have hbeg : ∀ i r, (D.str z :: ps) ≠ .int i :: r := fun i r e => by cases e
      generalize D.str z :: ps = ds at *
      obtain ⟨kd, rfl⟩ : ∃ kd, kk = kd + 1 := by
        cases kk with
        | zero => exact absurd hf.2.2 (by simp [L2.D.deep])
        | succ m => exact ⟨m, rfl⟩
      have hfs := fin_un hf
      obtain ⟨a, xs, rfl, e, hs⟩ := id hv
      walk_at "w"
      refine ⟨small (by simp), fun pe hpe => ?_⟩
      have s1 : Same H (upd H pe (.tup [])) := same_new hpe _
      refine v_eqD (hv.same s1) (d' := .tup []) ⟨pe, _, rfl, upd_same, rfl⟩ (by have := hf.2.2; omega) ?_
      rw [hdq]
      have hh1 := hh.same s1
      have hv1 := hv.same s1
      generalize upd H pe (.tup []) = H1 at s1 hh1 hv1 ⊢
      walk_at "w"
      refine use_take hh1 (by decide) (by decide) (by omega) fun r2 H2 hr20 hr21 hh2 kb2 => ?_
      have hv2 := hv1.keepT hh1 kb2 hf.2.1
      have kb02 : KeepBut p H H2 := s1.kb.trans kb2
      walk_at "w"
      refine v_iteD (fun h0 => ?_) (fun h0 => ?_)
      · walk_at "w"
        exact odd hh2 (by omega) kb02 fun _ _ q => q
      walk_at "w"
      refine use_take hh2 (by decide) (by decide) (by omega) fun how H3 hr30 hr31 hh3 kb3 => ?_
      have hv3 := hv2.keepT hh2 kb3 hf.2.1
      have kb03 := kb02.trans kb3
      walk_at "w"
      refine v_iteD (fun h1 => ?_) (fun h1 => ?_)
      · walk_at "w"
        refine ⟨p, _, rfl, hh3, by omega, fun vo od H4 ho hof hh4 kb4 => ?_⟩
        have hv4 := hv3.keepT hh3 kb4 hf.2.1
        walk_at "w"
        refine ⟨small (by simp), fun p8 hp8 => ?_⟩
        have s8 : Same H4 (upd H4 p8 (.tup [vo])) := same_new hp8 _
        have hv8 : Rep (upd H4 p8 (.tup [vo])) (.tup [od]) (.ref p8) := ⟨p8, _, rfl, upd_same, _, _, rfl, ho.same s8, rfl⟩
        generalize upd H4 p8 (.tup [vo]) = H8 at s8 hv8 ⊢
        walk_at "w"
        refine v_catR (hv4.same s8) hv8 (by simp; omega) fun v9 H9 s9 hv9 => ?_
        exact k _ _ _ hv9 (fin_mono (fin_tup (fins_app (fins_mono hfs (by omega)) (fins_cons (fin_mono (m := kd + 3) hof (by omega)) (fins_nil _)))) (by omega)) (((hh4.same s8).same s9).mono (by omega)) ((kb03.trans kb4).trans (s8.trans s9).kb)
      walk_at "w"
      refine v_iteD (fun h2 => ?_) (fun h2 => ?_)
      · walk_at "w"
        refine v_slInit hv3 fun v4 H4 s4 hv4 => ?_
        exact k _ _ _ hv4 (fin_mono (fin_tup (fins_take hfs _)) (by omega)) ((hh3.same s4).mono (by omega)) (kb03.trans s4.kb)
      walk_at "w"
      refine v_iteD (fun h3 => ?_) (fun h3 => ?_)
      · walk_at "w"
        refine v_listR hv3 fun v4 H4 s4 hv4 => ?_
        exact k _ _ _ hv4 (fin_mono (fin_lst hfs hbeg) (by omega)) ((hh3.same s4).mono (by omega)) (kb03.trans s4.kb)
      walk_at "w"
      refine v_lenR hv3 ?_
      walk_at "w"
      refine use_take hh3 (by omega) (by omega) (by omega) fun r4 H4 hr40 hr41 hh4 kb4 => ?_
      have hv4 := hv3.keepT hh3 kb4 hf.2.1
      obtain ⟨j, rfl⟩ : ∃ j : Nat, r4 = (j : Int) := ⟨r4.toNat, by omega⟩
      have hjl : j < ds.length := by omega
      have hj : ds[j]? = some ds[j] := List.getElem?_eq_getElem hjl
      generalize ds[j] = dj at hj
      have hje : dj.fin kd := fins_mem.mp hfs _ (List.mem_of_getElem? hj)
      have hjt := wts_mem hwts hj
      have ej : ((j : Int) + 1) = ((j + 1 : Nat) : Int) := by omega
      walk_at "w"
      refine v_ixR hv4 hj fun y hy => ?_
      walk_at "w"
      refine ⟨p, _, y, dj, kd, rfl, by omega, by omega, hh4, by omega, hy, hjt, hje, fun vo od H5 ho hof hh5 kb5 => ?_⟩
      have hv5 := hv4.keepT hh4 kb5 hf.2.1
      walk_at "w"
      refine v_slTo hv5 (by omega) fun v6 H6 s6 hv6 => ?_
      walk_at "w"
      refine ⟨small (by simp), fun p8 hp8 => ?_⟩
      have s8 : Same H6 (upd H6 p8 (.tup [vo])) := same_new hp8 _
      have hv8 : Rep (upd H6 p8 (.tup [vo])) (.tup [od]) (.ref p8) := ⟨p8, _, rfl, upd_same, _, _, rfl, (ho.same s6).same s8, rfl⟩
      generalize upd H6 p8 (.tup [vo]) = H8 at s8 hv8 ⊢
      walk_at "w"
      refine v_catR (hv6.same s8) hv8 (by simp; omega) fun v9 H9 s9 hv9 => ?_
      walk_at "w"
      rw [ej]
      refine v_slFrom (((hv5.same s6).same s8).same s9) (by omega) fun v10 H10 s10 hv10 => ?_
      walk_at "w"
      refine v_catR (hv9.same s10) hv10 (by simp; omega) fun v11 H11 s11 hv11 => ?_
      have sA := (((s6.trans s8).trans s9).trans s10).trans s11
      exact k _ _ _ hv11 (fin_tup (k := kd + 4) (fins_app (fins_app (fins_mono (fins_take hfs j) (by omega)) (fins_cons hof (fins_nil _))) (fins_mono (fins_drop hfs (j + 1)) (by omega)))) ((hh5.same sA).mono (by omega)) ((((kb03.trans kb4).trans kb5)).trans sA.kb)
end
end K14

set_option Elab.async false
set_option linter.all false
set_option maxRecDepth 100000
set_option maxHeartbeats 8000000
namespace K14
open PySem L2
local macro_rules | `(tactic| walk_at "as") => `(tactic| with_reducible assumption)
local macro_rules | `(tactic| walk_at "hand") => `(tactic| first | walk_at "as" | (with_reducible refine' Hand.new ?hdx ?hdy; (case hdy => walk_at "as"); (case hdx => walk_at "hand")))
local macro_rules | `(tactic| walk_at "same") => `(tactic| first | with_reducible exact Same.refl _ | walk_at "as" | (with_reducible refine' Same.trans ?smx (same_new ?smy _); (case smy => walk_at "as"); (case smx => walk_at "same")))
local macro_rules | `(tactic| walk_at "ne") => `(tactic| first | walk_at "as" | (apply Ne.symm; walk_at "as"))
local macro_rules | `(tactic| walk_at "hg") => `(tactic| first | with_reducible exact upd_same | walk_at "as" | (with_reducible refine' upd_new ?hgx ?hgy; (case hgy => walk_at "as"); (case hgx => walk_at "hg")) | (with_reducible refine' Eq.trans (upd_ne ?hgn) ?hgx; (case hgn => walk_at "ne"); (case hgx => walk_at "hg")))
local macro_rules | `(tactic| walk_at "v") => `(tactic| (with_reducible first
  | refine iteT ?_ | refine iteF ?_ | refine v_iteNT ?_ | refine v_iteNF ?_ | refine v_abs ?_ | refine v_seq ?_ | refine v_asg ?_ | refine v_ifS ?_ | refine v_ret ?_ | refine v_retN ?_ | refine v_next ?_ | refine v_break ?_ | refine v_cont ?_ | refine v_drop ?_ | refine v_name ?_ | refine v_gsub ?_
  | refine v_C ?_ | refine v_op ?_ | refine v_un ?_ | refine v_neg ?_ | refine v_test ?_ | refine v_tB ?_ | refine v_bl ?_ | refine v_or ?_ | refine v_and ?_ | refine v_not ?_ | refine v_andV ?_ | refine v_orV ?_ | refine v_notV ?_ | refine v_if ?_ | refine v_chain ?_
  | refine v_call ?_ | refine v_CB ?_ | refine v_cons ?_ | refine v_nil ?_ | refine v_lst ?_ | refine v_tup ?_ | refine v_sl ?_ | refine v_noPart ?_ | refine v_part ?_ | refine v_int ?_ | refine v_bm ?_ | refine v_true ?_
  | refine v_rI0 ?_ | refine v_addI ?_ | refine v_ltI ?_ | refine v_leI ?_ | refine v_gtI ?_ | refine v_geI ?_ | refine v_ltS ?_ | refine v_leS ?_ | refine v_gtS ?_ | refine v_geS ?_
  | refine v_eqI ?_ | refine v_eqS ?_ | refine v_eqB ?_ | refine v_neI ?_ | refine v_neS ?_ | refine v_neB ?_ | refine v_isB ?_ | refine v_isN ?_ | refine v_comp ?_ | refine v_iR1 ?_ | refine v_iStr ?_ | refine v_iStr' ?_ | refine v_iL ?_
  | (refine' v_var ?hv ?_; (case hv => with_unfolding_all rfl))
  | (refine' v_ixL ?h1 ?h2 ?_; (case h1 => walk_at "hg"); (case h2 => with_unfolding_all rfl))
  | (refine' v_ixT ?h1 ?h2 ?_; (case h1 => walk_at "hg"); (case h2 => with_unfolding_all rfl))
  | (refine' v_setL ?h1 ?h2 ?_; (case h1 => walk_at "hg"); (case h2 => with_unfolding_all rfl))
  | (refine' v_lenL ?h1 ?_; (case h1 => walk_at "hg"))
  | (refine' v_lenT ?h1 ?_; (case h1 => walk_at "hg"))
  | (refine v_instT ?h1 ?h2 ?h3 ?_; (case h1 => (simp [tyName, instB, *]; done)); (case h2 => (simp [tyName, *]; done)); (case h3 => (simp; done)))
  | (refine v_instF ?h1 ?h2 ?h3 ?_; (case h1 => (simp [tyName, instB, *]; done)); (case h2 => (simp [tyName, *]; done)); (case h3 => (simp; done)))
  | (refine v_mulI ?h1 ?_; (case h1 => (unfold CMul; omega)))
  | (refine v_rI ?h1 ?_; (case h1 => first | omega | (unfold CDiv; omega) | (unfold CPow; omega)))))
local macro_rules | `(tactic| walk_at "v2") => `(tactic| (with_reducible first | refine v_isNotB ?_ | refine v_isNotN ?_ | refine v_disp ?_ | refine v_pcons ?_ | refine v_pnil ?_ | refine v_dget2 ?_ | refine v_iT ?_ | refine v_chain3 ?_ | refine v_inSign ?_))
local macro_rules | `(tactic| walk_at "w") => `(tactic| repeat (first | walk_at "v" | walk_at "v2"))
local macro_rules | `(tactic| walk_at "vs") => `(tactic| repeat (walk_at "v"))
section
variable {P : Program} {w : World} {K : PySem.W.Frag} {mg : Str → Option Value} {base : Heap} {t : Adr}
theorem deq_str (x y : Str) : deq (.str x) (.str y) = decide (x = y) := by
  simp only [deq]
  exact Bool.eq_iff_iff.mpr (by simp)
theorem in3_str (b : D) : (isStrD b && in3w b) = in3w b := by
  cases b with
  | str y => rfl
  | _ => simp [isStrD, in3w, deq]
theorem times_eq (b c : D) (x : Bool) : (if (timeD b && timeD c) = true then leD b c && x else false) = (timesD b c && x) := by
  cases b with
  | int l =>
    cases c with
    | int h =>
      have e : timesD (.int l) (.int h) = (timeD (.int l) && timeD (.int h) && leD (.int l) (.int h)) := by
        simp only [timesD, timeD, leD]
        rw [Bool.eq_iff_iff]
        simp only [Bool.and_eq_true, decide_eq_true_iff]
        omega
      rw [e]
      cases timeD (.int l) <;> cases timeD (.int h) <;> simp
    | _ => simp [timesD, timeD]
  | _ => simp [timesD, timeD]
theorem all_two (n : Nat) (ps : List D) (ih : ∀ d ∈ ps, dueF n d = isWayF n d) : (decide ((ps.length : Int) + 1 = 3) && ps.all (dueF n)) = two (fun a b => isWayF n a && isWayF n b) ps := by
  by_cases hl : ps.length = 2
  · obtain ⟨a, b, rfl⟩ := len2 hl
    rw [decide_eq_true (by rfl), Bool.true_and, List.all_cons, List.all_cons, List.all_nil, Bool.and_true, ih a (by simp), ih b (by simp)]
    rfl
  · rw [decide_eq_false (by omega), Bool.false_and, two_no hl]
theorem due_same : ∀ (n : Nat) (d : D), dueF n d = isWayF n d
  | 0, d => by cases d <;> rfl
  | n + 1, d => by
    cases d with
    | tup ds =>
      cases ds with
      | nil => rfl
      | cons w ps =>
        have hps : ∀ d ∈ ps, dueF n d = isWayF n d := fun d _ => due_same n d
        cases w with
        | str z =>
          rw [dueF_eq, wayF_eq]
          by_cases h1 : z = Str.ofString "step"
          · subst h1
            rw [if_pos (c := deq _ _ = true) (by decide +kernel)]
            by_cases hl : ps.length = 2
            · rw [if_pos ⟨rfl, hl⟩]
              obtain ⟨a, b, rfl⟩ := len2 hl
              show (kindD a && (isStrD b && in3w b)) = (kindD a && in3w b)
              rw [in3_str]
            · rw [if_neg (fun q => hl q.2), if_neg (fun q => absurd q.1 (by decide +kernel)), two_no hl, decide_eq_false (by rw [show sizeOf (Str.ofString "step") = 0 by decide +kernel]; omega)]
              rfl
          rw [if_neg (c := z = Str.ofString "step" ∧ _) (fun q => h1 q.1), if_neg (c := deq _ (dS "step") = true) (by rw [deq_str, decide_eq_false h1]; exact Bool.false_ne_true)]
          by_cases h2 : z = Str.ofString "many"
          · subst h2
            rw [if_neg (c := deq _ (dS "empty") = true) (by decide +kernel), if_neg (c := in2w _ = true) (by decide +kernel), if_neg (c := deq _ (dS "again") = true) (by decide +kernel), show deq (.str (Str.ofString "many")) (dS "many") = true by decide +kernel, Bool.true_and]
            by_cases hl : ps.length = 3
            · rw [if_pos ⟨rfl, hl⟩]
              obtain ⟨a, b, c, rfl⟩ := len3 hl
              show (if (timeD b && timeD c) = true then leD b c && dueF n a else false) = (timesD b c && isWayF n a)
              rw [times_eq, hps a (by simp)]
            · rw [if_neg (fun q => hl q.2), three_no hl, decide_eq_false (by rw [show sizeOf (Str.ofString "many") = 0 by decide +kernel]; omega)]
              rfl
          rw [if_neg (c := z = Str.ofString "many" ∧ _) (fun q => h2 q.1)]
          by_cases h3 : z = Str.ofString "empty"
          · subst h3
            rw [if_pos (c := deq _ (dS "empty") = true) (by decide +kernel), show sizeOf (Str.ofString "empty") = 1 by decide +kernel]
            by_cases hl : ps.length = 0
            · rw [decide_eq_true hl, decide_eq_true (by omega), List.length_eq_zero_iff.mp hl]; rfl
            · rw [decide_eq_false hl, decide_eq_false (by omega)]; rfl
          rw [if_neg (c := deq _ (dS "empty") = true) (by rw [deq_str, decide_eq_false h3]; exact Bool.false_ne_true)]
          by_cases h4 : z = Str.ofString "then"
          · subst h4
            rw [if_pos (c := in2w _ = true) (by decide +kernel), show sizeOf (Str.ofString "then") = 3 by decide +kernel, all_two n ps hps]
          by_cases h5 : z = Str.ofString "or"
          · subst h5
            rw [if_pos (c := in2w _ = true) (by decide +kernel), show sizeOf (Str.ofString "or") = 3 by decide +kernel, all_two n ps hps]
          have e4 : in2w (.str z) = false := by
            simp only [in2w, List.any_cons, List.any_nil, deq_str, decide_eq_false (Ne.symm h4), decide_eq_false (Ne.symm h5)]
            rfl
          rw [e4, if_neg Bool.false_ne_true]
          by_cases h6 : z = Str.ofString "again"
          · subst h6
            rw [if_pos (c := deq _ (dS "again") = true) (by decide +kernel), show sizeOf (Str.ofString "again") = 2 by decide +kernel]
            by_cases hl : ps.length = 1
            · obtain ⟨a, rfl⟩ := len1 hl
              rw [decide_eq_true (by rfl), Bool.true_and, List.all_cons, List.all_nil, Bool.and_true, hps a (by simp)]
              rfl
            · rw [decide_eq_false (by omega), Bool.false_and, one_no hl]
          rw [if_neg (c := deq _ (dS "again") = true) (by rw [deq_str, decide_eq_false h6]; exact Bool.false_ne_true), deq_str, decide_eq_false h2, Bool.false_and]
          have e5 : sizeOf z = 0 := by unfold sizeOf; rw [if_neg h3, if_neg h4, if_neg h5, if_neg h6]
          rw [e5, decide_eq_false (by omega), Bool.false_and]
        | _ => rw [wayF_eq]; simp [dueF, deq, in2w]
    | _ => rfl
def spRight : Sp := fun vs H Q _ => ∃ (v : V) (d : D), vs = [v] ∧ Rep H d v ∧ d.short = true ∧ d.deep < 20 ∧ ∀ H', Same H H' → Q (.bl true) H'
theorem ok__law_right (T : Txt K mg t) : FnOk P w K mg base CX0 23 t.f__law_right t.d__law_right ["_law_thing"] spRight := by
  refine T.F__law_right.ok sc__law_right (fun vs H Q E h => ?_) (fun cdv A outer s H vs Q E hr h => ?_)
  · obtain ⟨v, d, rfl, _⟩ := h
    rfl
  obtain ⟨v, d, rfl, hv, hsh, hdp, k⟩ := h
  have G_is_way : FnOk P w K mg base CX0 22 t.f_is_way t.d_is_way ["thing"] (spIsWay 20) := ok_is_way T 20
  have G__law_due : FnOk P w K mg base CX0 21 t.f__law_due t.d__law_due ["_law_thing"] (spDue 20) := ok__law_due T 20
  refine' ⟨_, ?der, ?_⟩
  case der =>
   conv => arg 2; whnf
   with_reducible refine' pss_cons ?d1 ?d2
   case d1 =>
    with_reducible refine' ps_setk (i := 1) ?d3 ?d4 ?d5 ?d6 ?d7 ?d8
    case d3 => exact sc__law_right.nd
    case d4 => exact rfl
    case d5 => exact (Or.inl q__law_right__law_found.lk)
    case d6 =>
     with_reducible refine' pe_callk ?d9 ?d10 ?d11 ?d12 ?d13 ?d14 ?d15 ?d16 ?d17 ?d18 ?d19
     case d9 => exact G_is_way
     case d10 => exact (hr.mono (by omega))
     case d11 => exact q__law_right_is_way
     case d12 => exact T.m_is_way
     case d13 => exact T.F_is_way.kp
     case d14 => exact T.b_is_way
     case d15 => exact .nil
     case d16 => exact pass0
     case d17 =>
      with_reducible refine' pa_c ?d20 ?d21 ?d22
      case d20 => exact (pvk 0 q__law_right__law_thing (by rfl) (by rfl))
      case d21 => exact pa_nil
      case d22 => rfl
     case d18 => rfl
     case d19 => rfl
    case d7 => rfl
    case d8 => rfl
   case d2 =>
    with_reducible refine' pss_one ?d23
    case d23 =>
     with_reducible refine' ps_ret ?d24
     case d24 =>
      with_reducible refine' pe_and ?d25 ?d26
      case d25 =>
       with_reducible refine' pe_callBk ?d27 ?d28 ?d29 ?d30 ?d31 ?d32 ?d33
       case d27 => exact call_inst
       case d28 => exact q__law_right_isinstance
       case d29 => exact T.z_isinstance
       case d30 => exact PyProof.Rows.boot_isinstance
       case d31 =>
        with_reducible refine' pa_c ?d34 ?d35 ?d36
        case d34 => exact (pvk 1 q__law_right__law_found (by rfl) (by rfl))
        case d35 =>
         with_reducible refine' pa_c ?d37 ?d38 ?d39
         case d37 =>
          with_reducible refine' pe_bltnk (v := .ty "bool") ?d40 ?d41 ?d42 ?d43
          case d40 => exact q__law_right_bool
          case d41 => exact T.z_bool
          case d42 => rfl
          case d43 => exact rfl
         case d38 => exact pa_nil
         case d39 => rfl
        case d36 => rfl
       case d32 => rfl
       case d33 => rfl
      case d26 =>
       with_reducible refine' pe_one ?d44
       case d44 =>
        with_reducible refine' pe_cmpR ?d45 ?d46 ?d47 ?d48
        case d45 => exact op_eq
        case d46 => exact (pvk 1 q__law_right__law_found (by rfl) (by rfl))
        case d47 =>
         with_reducible refine' pe_callk ?d49 ?d50 ?d51 ?d52 ?d53 ?d54 ?d55 ?d56 ?d57 ?d58 ?d59
         case d49 => exact G__law_due
         case d50 => exact (hr.mono (by omega))
         case d51 => exact q__law_right__law_due
         case d52 => exact T.m__law_due
         case d53 => exact T.F__law_due.kp
         case d54 => exact T.b__law_due
         case d55 => exact .nil
         case d56 => exact pass0
         case d57 =>
          with_reducible refine' pa_c ?d60 ?d61 ?d62
          case d60 => exact (pvk 0 q__law_right__law_thing (by rfl) (by rfl))
          case d61 => exact pa_nil
          case d62 => rfl
         case d58 => rfl
         case d59 => rfl
        case d48 => exact (nomark _)
  walk_at "w"
  refine ⟨v, d, rfl, hv, hsh, by omega, hdp, fun H1 s1 => ?_⟩
  walk_at "w"
  refine ⟨v, d, rfl, hv.same s1, hsh, by omega, hdp, fun H2 s2 => ?_⟩
  rw [due_same]
  walk_at "w"
  rw [decide_eq_true rfl]
  exact k _ (s1.trans s2)
end
end K14

set_option Elab.async false
set_option linter.all false
set_option maxRecDepth 100000
set_option maxHeartbeats 8000000
namespace K14
open PySem L2
local macro_rules | `(tactic| walk_at "as") => `(tactic| with_reducible assumption)
local macro_rules | `(tactic| walk_at "hand") => `(tactic| first | walk_at "as" | (with_reducible refine' Hand.new ?hdx ?hdy; (case hdy => walk_at "as"); (case hdx => walk_at "hand")))
local macro_rules | `(tactic| walk_at "same") => `(tactic| first | with_reducible exact Same.refl _ | walk_at "as" | (with_reducible refine' Same.trans ?smx (same_new ?smy _); (case smy => walk_at "as"); (case smx => walk_at "same")))
local macro_rules | `(tactic| walk_at "ne") => `(tactic| first | walk_at "as" | (apply Ne.symm; walk_at "as"))
local macro_rules | `(tactic| walk_at "hg") => `(tactic| first | with_reducible exact upd_same | walk_at "as" | (with_reducible refine' upd_new ?hgx ?hgy; (case hgy => walk_at "as"); (case hgx => walk_at "hg")) | (with_reducible refine' Eq.trans (upd_ne ?hgn) ?hgx; (case hgn => walk_at "ne"); (case hgx => walk_at "hg")))
local macro_rules | `(tactic| walk_at "v") => `(tactic| (with_reducible first
  | refine iteT ?_ | refine iteF ?_ | refine v_iteNT ?_ | refine v_iteNF ?_ | refine v_abs ?_ | refine v_seq ?_ | refine v_asg ?_ | refine v_ifS ?_ | refine v_ret ?_ | refine v_retN ?_ | refine v_next ?_ | refine v_break ?_ | refine v_cont ?_ | refine v_drop ?_ | refine v_name ?_ | refine v_gsub ?_
  | refine v_C ?_ | refine v_op ?_ | refine v_un ?_ | refine v_neg ?_ | refine v_test ?_ | refine v_tB ?_ | refine v_bl ?_ | refine v_or ?_ | refine v_and ?_ | refine v_not ?_ | refine v_andV ?_ | refine v_orV ?_ | refine v_notV ?_ | refine v_if ?_ | refine v_chain ?_
  | refine v_call ?_ | refine v_CB ?_ | refine v_cons ?_ | refine v_nil ?_ | refine v_lst ?_ | refine v_tup ?_ | refine v_sl ?_ | refine v_noPart ?_ | refine v_part ?_ | refine v_int ?_ | refine v_bm ?_ | refine v_true ?_
  | refine v_rI0 ?_ | refine v_addI ?_ | refine v_ltI ?_ | refine v_leI ?_ | refine v_gtI ?_ | refine v_geI ?_ | refine v_ltS ?_ | refine v_leS ?_ | refine v_gtS ?_ | refine v_geS ?_
  | refine v_eqI ?_ | refine v_eqS ?_ | refine v_eqB ?_ | refine v_neI ?_ | refine v_neS ?_ | refine v_neB ?_ | refine v_isB ?_ | refine v_isN ?_ | refine v_comp ?_ | refine v_iR1 ?_ | refine v_iStr ?_ | refine v_iStr' ?_ | refine v_iL ?_
  | (refine' v_var ?hv ?_; (case hv => with_unfolding_all rfl))
  | (refine' v_ixL ?h1 ?h2 ?_; (case h1 => walk_at "hg"); (case h2 => with_unfolding_all rfl))
  | (refine' v_ixT ?h1 ?h2 ?_; (case h1 => walk_at "hg"); (case h2 => with_unfolding_all rfl))
  | (refine' v_setL ?h1 ?h2 ?_; (case h1 => walk_at "hg"); (case h2 => with_unfolding_all rfl))
  | (refine' v_lenL ?h1 ?_; (case h1 => walk_at "hg"))
  | (refine' v_lenT ?h1 ?_; (case h1 => walk_at "hg"))
  | (refine v_instT ?h1 ?h2 ?h3 ?_; (case h1 => (simp [tyName, instB, *]; done)); (case h2 => (simp [tyName, *]; done)); (case h3 => (simp; done)))
  | (refine v_instF ?h1 ?h2 ?h3 ?_; (case h1 => (simp [tyName, instB, *]; done)); (case h2 => (simp [tyName, *]; done)); (case h3 => (simp; done)))
  | (refine v_mulI ?h1 ?_; (case h1 => (unfold CMul; omega)))
  | (refine v_rI ?h1 ?_; (case h1 => first | omega | (unfold CDiv; omega) | (unfold CPow; omega)))))
local macro_rules | `(tactic| walk_at "v2") => `(tactic| (with_reducible first | refine v_isNotB ?_ | refine v_isNotN ?_ | refine v_disp ?_ | refine v_pcons ?_ | refine v_pnil ?_ | refine v_dget2 ?_ | refine v_iT ?_ | refine v_chain3 ?_ | refine v_inSign ?_))
local macro_rules | `(tactic| walk_at "w") => `(tactic| repeat (first | walk_at "v" | walk_at "v2"))
local macro_rules | `(tactic| walk_at "vs") => `(tactic| repeat (walk_at "v"))
section
variable {P : Program} {w : World} {K : PySem.W.Frag} {mg : Str → Option Value} {base : Heap} {t : Adr}
theorem v_bneT {A B : Prop} (h : B) : if (true != true) = true then A else B := by simpa using h
theorem v_bneF {A B : Prop} (h : B) : if (false != false) = true then A else B := by simpa using h
theorem v_beqT {A B : Prop} (h : A) : if (true == true) = true then A else B := by simpa using h
theorem v_beqF {A B : Prop} (h : A) : if (false == false) = true then A else B := by simpa using h
local macro_rules | `(tactic| walk_at "x") => `(tactic| repeat (first | walk_at "v" | walk_at "v2" | (with_reducible refine v_bneT ?_) | (with_reducible refine v_bneF ?_) | (with_reducible refine v_beqT ?_) | (with_reducible refine v_beqF ?_)))
theorem sq_same {K : PySem.W.Frag} {H H' : Hp} {a : Addr} {xs : List V} (h : SqL K H a xs) (s : Same H H') : SqL K H' a xs := by
  rcases h with (h | ⟨o, h⟩) | h
  · exact .inl (.inl (s _ _ h))
  · exact .inl (.inr ⟨o, s _ _ h⟩)
  · exact .inr h
theorem same_kb {H0 H H' : Hp} {p : Addr} (s : Same H0 H) (kb : KeepBut p H H') (hp : H0 p = none) : Same H0 H' := fun b o e => kb b o (s b o e) (ne_of_none e hp)
def spLaw (K : PySem.W.Frag) : Sp := fun vs H Q _ => ∃ (a : Addr) (ns : List Int), vs = [.ref a] ∧ SqL K H a (ns.map V.int) ∧ ns.length ≤ 63 ∧ ∀ H', Q (.bl true) H'
theorem spLaw_of {K : PySem.W.Frag} {H : Hp} {a : Addr} {ns : List Int} (hl : ns.length ≤ 63) (hS : SqL K H a (ns.map V.int)) : spLaw K [.ref a] H (fun v _ => v = .bl true) fun _ _ _ => False := ⟨a, ns, rfl, hS, hl, fun _ => rfl⟩
theorem ok_law (T : Txt K mg t) : FnOk P w K mg base CX0 25 t.f_law t.d_law ["_law_script"] (spLaw K) := by
  refine T.F_law.ok sc_law (fun vs H Q E h => ?_) (fun cdv A outer s H vs Q E hr h => ?_)
  · obtain ⟨a, ns, rfl, _⟩ := h
    rfl
  obtain ⟨a, ns, rfl, hS, hl, k⟩ := h
  have G__law_hand : FnOk P w K mg base CX0 1 t.f__law_hand t.d__law_hand ["_law_script", "_law_k"] (spHandK K) := ok_hand T
  have G__law_kinds : FnOk P w K mg base CX0 2 t.f__law_kinds t.d__law_kinds ["_law_hand_here"] spKinds := ok__law_kinds T
  have G__law_way : FnOk P w K mg base CX0 16 t.f__law_way t.d__law_way ["_law_hand_here", "_law_kinds_here", "_law_room", "_law_nest"] (spWay 13) := ok__law_way T 13
  have G__law_spoilt : FnOk P w K mg base CX0 16 t.f__law_spoilt t.d__law_spoilt ["_law_hand_here", "_law_thing"] (spSpoilt 13) := ok__law_spoilt T 13
  have G__law_odd : FnOk P w K mg base CX0 2 t.f__law_odd t.d__law_odd ["_law_hand_here"] spOdd := ok__law_odd T
  have G__law_right : FnOk P w K mg base CX0 23 t.f__law_right t.d__law_right ["_law_thing"] spRight := ok__law_right T
  have G_is_way : FnOk P w K mg base CX0 22 t.f_is_way t.d_is_way ["thing"] (spIsWay 20) := ok_is_way T 20
  refine' ⟨_, ?der, ?_⟩
  case der =>
   conv => arg 2; whnf
   with_reducible refine' pss_cons ?d1 ?d2
   case d1 =>
    with_reducible refine' ps_setk (i := 1) ?d3 ?d4 ?d5 ?d6 ?d7 ?d8
    case d3 => exact sc_law.nd
    case d4 => exact rfl
    case d5 => exact (Or.inl q_law__law_deep.lk)
    case d6 =>
     with_reducible refine' pe_tup ?d9
     case d9 =>
      with_reducible refine' pa_c ?d10 ?d11 ?d12
      case d10 => exact pe_str
      case d11 => exact pa_nil
      case d12 => rfl
    case d7 => rfl
    case d8 => rfl
   case d2 =>
    with_reducible refine' pss_cons ?d13 ?d14
    case d13 =>
     with_reducible refine' ps_for ?d15 ?d16 ?d17 ?d18 ?d19 ?d20
     case d15 => exact PassesOwn.never
     case d16 => exact rfl
     case d17 =>
      with_reducible refine' pi_range1 ?d21 ?d22 ?d23 ?d24
      case d21 => exact q_law_range.lk
      case d22 => exact T.z_range
      case d23 =>
       with_reducible refine' pa_c ?d25 ?d26 ?d27
       case d25 => exact pe_int
       case d26 => exact pa_nil
       case d27 => rfl
      case d24 => rfl
     case d18 =>
      with_reducible refine' pg_name (i := 2) ?d28 ?d29 ?d30 ?d31
      case d28 => exact sc_law.nd
      case d29 => exact rfl
      case d30 => exact (Or.inl q_law__law_k.lk)
      case d31 => exact (Or.inl rfl)
     case d19 =>
      with_reducible refine' pss_one ?d32
      case d32 =>
       with_reducible refine' ps_setk (i := 1) ?d33 ?d34 ?d35 ?d36 ?d37 ?d38
       case d33 => exact sc_law.nd
       case d34 => exact rfl
       case d35 => exact (Or.inl q_law__law_deep.lk)
       case d36 =>
        with_reducible refine' pe_ix ?d39 ?d40 ?d41 ?d42
        case d39 => exact ix_any
        case d40 =>
         with_reducible refine' pe_tup ?d43
         case d43 =>
          with_reducible refine' pa_c ?d44 ?d45 ?d46
          case d44 =>
           with_reducible refine' pe_tup ?d47
           case d47 =>
            with_reducible refine' pa_c ?d48 ?d49 ?d50
            case d48 => exact pe_str
            case d49 =>
             with_reducible refine' pa_c ?d51 ?d52 ?d53
             case d51 => exact (pvk 1 q_law__law_deep (by rfl) (by rfl))
             case d52 => exact pa_nil
             case d53 => rfl
            case d50 => rfl
          case d45 =>
           with_reducible refine' pa_c ?d54 ?d55 ?d56
           case d54 =>
            with_reducible refine' pe_tup ?d57
            case d57 =>
             with_reducible refine' pa_c ?d58 ?d59 ?d60
             case d58 => exact pe_str
             case d59 =>
              with_reducible refine' pa_c ?d61 ?d62 ?d63
              case d61 =>
               with_reducible refine' pe_tup ?d64
               case d64 =>
                with_reducible refine' pa_c ?d65 ?d66 ?d67
                case d65 => exact pe_str
                case d66 => exact pa_nil
                case d67 => rfl
              case d62 =>
               with_reducible refine' pa_c ?d68 ?d69 ?d70
               case d68 => exact (pvk 1 q_law__law_deep (by rfl) (by rfl))
               case d69 => exact pa_nil
               case d70 => rfl
              case d63 => rfl
             case d60 => rfl
           case d55 =>
            with_reducible refine' pa_c ?d71 ?d72 ?d73
            case d71 =>
             with_reducible refine' pe_tup ?d74
             case d74 =>
              with_reducible refine' pa_c ?d75 ?d76 ?d77
              case d75 => exact pe_str
              case d76 =>
               with_reducible refine' pa_c ?d78 ?d79 ?d80
               case d78 => exact (pvk 1 q_law__law_deep (by rfl) (by rfl))
               case d79 =>
                with_reducible refine' pa_c ?d81 ?d82 ?d83
                case d81 => exact pe_int
                case d82 =>
                 with_reducible refine' pa_c ?d84 ?d85 ?d86
                 case d84 => exact pe_int
                 case d85 => exact pa_nil
                 case d86 => rfl
                case d83 => rfl
               case d80 => rfl
              case d77 => rfl
            case d72 => exact pa_nil
            case d73 => rfl
           case d56 => rfl
          case d46 => rfl
        case d41 =>
         with_reducible refine' pe_op ?d87 ?d88 ?d89
         case d87 => exact op_mod
         case d88 => exact (pvk 2 q_law__law_k (by rfl) (by rfl))
         case d89 => exact pe_int
        case d42 => exact (fun _ _ => rfl)
       case d37 => rfl
       case d38 => rfl
     case d20 => (intro _; rfl)
    case d14 =>
     with_reducible refine' pss_cons ?d90 ?d91
     case d90 =>
      with_reducible refine' ps_if ?d92 ?d93 ?d94
      case d92 =>
       with_reducible refine' PW.pt ?d95
       case d95 =>
        with_reducible refine' pw_or ?d96 ?d97
        case d96 =>
         with_reducible refine' pt_cmpR ?d98 ?d99 ?d100 ?d101
         case d98 => exact op_isNotA
         case d99 =>
          with_reducible refine' pe_callk ?d102 ?d103 ?d104 ?d105 ?d106 ?d107 ?d108 ?d109 ?d110 ?d111 ?d112
          case d102 => exact G_is_way
          case d103 => exact (hr.mono (by omega))
          case d104 => exact q_law_is_way
          case d105 => exact T.m_is_way
          case d106 => exact T.F_is_way.kp
          case d107 => exact T.b_is_way
          case d108 => exact .nil
          case d109 => exact pass0
          case d110 =>
           with_reducible refine' pa_c ?d113 ?d114 ?d115
           case d113 => exact (pvk 1 q_law__law_deep (by rfl) (by rfl))
           case d114 => exact pa_nil
           case d115 => rfl
          case d111 => rfl
          case d112 => rfl
         case d100 => exact pe_bl
         case d101 => exact (nomark _)
        case d97 =>
         with_reducible refine' pw_or1 ?d116
         case d116 =>
          with_reducible refine' pt_cmpR ?d117 ?d118 ?d119 ?d120
          case d117 => exact op_isNotA
          case d118 =>
           with_reducible refine' pe_callk ?d121 ?d122 ?d123 ?d124 ?d125 ?d126 ?d127 ?d128 ?d129 ?d130 ?d131
           case d121 => exact G_is_way
           case d122 => exact (hr.mono (by omega))
           case d123 => exact q_law_is_way
           case d124 => exact T.m_is_way
           case d125 => exact T.F_is_way.kp
           case d126 => exact T.b_is_way
           case d127 => exact .nil
           case d128 => exact pass0
           case d129 =>
            with_reducible refine' pa_c ?d132 ?d133 ?d134
            case d132 =>
             with_reducible refine' pe_tup ?d135
             case d135 =>
              with_reducible refine' pa_c ?d136 ?d137 ?d138
              case d136 => exact pe_str
              case d137 =>
               with_reducible refine' pa_c ?d139 ?d140 ?d141
               case d139 =>
                with_reducible refine' pe_callTyk ?d142 ?d143 ?d144 ?d145 ?d146 ?d147 ?d148
                case d142 => exact call_list_of
                case d143 => exact q_law_list
                case d144 => exact T.z_list
                case d145 => rfl
                case d146 =>
                 with_reducible refine' pa_c ?d149 ?d150 ?d151
                 case d149 => exact (pvk 1 q_law__law_deep (by rfl) (by rfl))
                 case d150 => exact pa_nil
                 case d151 => rfl
                case d147 => rfl
                case d148 => rfl
               case d140 => exact pa_nil
               case d141 => rfl
              case d138 => rfl
            case d133 => exact pa_nil
            case d134 => rfl
           case d130 => rfl
           case d131 => rfl
          case d119 => exact pe_bl
          case d120 => exact (nomark _)
      case d93 =>
       with_reducible refine' pss_one ?d152
       case d152 =>
        with_reducible refine' ps_ret ?d153
        case d153 => exact pe_bl
      case d94 => exact pss_nil
     case d91 =>
      with_reducible refine' pss_cons ?d154 ?d155
      case d154 =>
       with_reducible refine' ps_for ?d156 ?d157 ?d158 ?d159 ?d160 ?d161
       case d156 => exact PassesOwn.never
       case d157 => exact rfl
       case d158 =>
        with_reducible refine' pi_range1 ?d162 ?d163 ?d164 ?d165
        case d162 => exact q_law_range.lk
        case d163 => exact T.z_range
        case d164 =>
         with_reducible refine' pa_c ?d166 ?d167 ?d168
         case d166 =>
          with_reducible refine' pe_op ?d169 ?d170 ?d171
          case d169 => exact op_addA
          case d170 => exact pe_int
          case d171 =>
           with_reducible refine' pe_callBk ?d172 ?d173 ?d174 ?d175 ?d176 ?d177 ?d178
           case d172 => exact (call_min2 rfl)
           case d173 => exact q_law_min
           case d174 => exact T.z_min
           case d175 => exact PyProof.Rows.boot_min
           case d176 =>
            with_reducible refine' pa_c ?d179 ?d180 ?d181
            case d179 => exact pe_int
            case d180 =>
             with_reducible refine' pa_c ?d182 ?d183 ?d184
             case d182 =>
              with_reducible refine' pe_callBk ?d185 ?d186 ?d187 ?d188 ?d189 ?d190 ?d191
              case d185 => exact call_len_seq
              case d186 => exact q_law_len
              case d187 => exact T.z_len
              case d188 => exact PySem.boot_len
              case d189 =>
               with_reducible refine' pa_c ?d192 ?d193 ?d194
               case d192 => exact (pvk 0 q_law__law_script (by rfl) (by rfl))
               case d193 => exact pa_nil
               case d194 => rfl
              case d190 => rfl
              case d191 => rfl
             case d183 => exact pa_nil
             case d184 => rfl
            case d181 => rfl
           case d177 => rfl
           case d178 => rfl
         case d167 => exact pa_nil
         case d168 => rfl
        case d165 => rfl
       case d159 =>
        with_reducible refine' pg_name (i := 2) ?d195 ?d196 ?d197 ?d198
        case d195 => exact sc_law.nd
        case d196 => exact rfl
        case d197 => exact (Or.inl q_law__law_k.lk)
        case d198 => exact (Or.inl rfl)
       case d160 =>
        with_reducible refine' pss_cons ?d199 ?d200
        case d199 =>
         with_reducible refine' ps_setk (i := 3) ?d201 ?d202 ?d203 ?d204 ?d205 ?d206
         case d201 => exact sc_law.nd
         case d202 => exact rfl
         case d203 => exact (Or.inl q_law__law_hand_here.lk)
         case d204 =>
          with_reducible refine' pe_callk ?d207 ?d208 ?d209 ?d210 ?d211 ?d212 ?d213 ?d214 ?d215 ?d216 ?d217
          case d207 => exact G__law_hand
          case d208 => exact (hr.mono (by omega))
          case d209 => exact q_law__law_hand
          case d210 => exact T.m__law_hand
          case d211 => exact T.F__law_hand.kp
          case d212 => exact T.b__law_hand
          case d213 => exact .nil
          case d214 => exact pass0
          case d215 =>
           with_reducible refine' pa_c ?d218 ?d219 ?d220
           case d218 => exact (pvk 0 q_law__law_script (by rfl) (by rfl))
           case d219 =>
            with_reducible refine' pa_c ?d221 ?d222 ?d223
            case d221 => exact (pvk 2 q_law__law_k (by rfl) (by rfl))
            case d222 => exact pa_nil
            case d223 => rfl
           case d220 => rfl
          case d216 => rfl
          case d217 => rfl
         case d205 => rfl
         case d206 => rfl
        case d200 =>
         with_reducible refine' pss_cons ?d224 ?d225
         case d224 =>
          with_reducible refine' ps_setk (i := 4) ?d226 ?d227 ?d228 ?d229 ?d230 ?d231
          case d226 => exact sc_law.nd
          case d227 => exact rfl
          case d228 => exact (Or.inl q_law__law_way_here.lk)
          case d229 =>
           with_reducible refine' pe_callk ?d232 ?d233 ?d234 ?d235 ?d236 ?d237 ?d238 ?d239 ?d240 ?d241 ?d242
           case d232 => exact G__law_way
           case d233 => exact (hr.mono (by omega))
           case d234 => exact q_law__law_way
           case d235 => exact T.m__law_way
           case d236 => exact T.F__law_way.kp
           case d237 => exact T.b__law_way
           case d238 => exact .nil
           case d239 => exact pass0
           case d240 =>
            with_reducible refine' pa_c ?d243 ?d244 ?d245
            case d243 => exact (pvk 3 q_law__law_hand_here (by rfl) (by rfl))
            case d244 =>
             with_reducible refine' pa_c ?d246 ?d247 ?d248
             case d246 =>
              with_reducible refine' pe_callk ?d249 ?d250 ?d251 ?d252 ?d253 ?d254 ?d255 ?d256 ?d257 ?d258 ?d259
              case d249 => exact G__law_kinds
              case d250 => exact (hr.mono (by omega))
              case d251 => exact q_law__law_kinds
              case d252 => exact T.m__law_kinds
              case d253 => exact T.F__law_kinds.kp
              case d254 => exact T.b__law_kinds
              case d255 => exact .nil
              case d256 => exact pass0
              case d257 =>
               with_reducible refine' pa_c ?d260 ?d261 ?d262
               case d260 => exact (pvk 3 q_law__law_hand_here (by rfl) (by rfl))
               case d261 => exact pa_nil
               case d262 => rfl
              case d258 => rfl
              case d259 => rfl
             case d247 =>
              with_reducible refine' pa_c ?d263 ?d264 ?d265
              case d263 => exact pe_int
              case d264 =>
               with_reducible refine' pa_c ?d266 ?d267 ?d268
               case d266 => exact pe_int
               case d267 => exact pa_nil
               case d268 => rfl
              case d265 => rfl
             case d248 => rfl
            case d245 => rfl
           case d241 => rfl
           case d242 => rfl
          case d230 => rfl
          case d231 => rfl
         case d225 =>
          with_reducible refine' pss_cons ?d269 ?d270
          case d269 =>
           with_reducible refine' ps_if ?d271 ?d272 ?d273
           case d271 =>
            with_reducible refine' pt_cmpR ?d274 ?d275 ?d276 ?d277
            case d274 => exact op_isNotA
            case d275 =>
             with_reducible refine' pe_callk ?d278 ?d279 ?d280 ?d281 ?d282 ?d283 ?d284 ?d285 ?d286 ?d287 ?d288
             case d278 => exact G_is_way
             case d279 => exact (hr.mono (by omega))
             case d280 => exact q_law_is_way
             case d281 => exact T.m_is_way
             case d282 => exact T.F_is_way.kp
             case d283 => exact T.b_is_way
             case d284 => exact .nil
             case d285 => exact pass0
             case d286 =>
              with_reducible refine' pa_c ?d289 ?d290 ?d291
              case d289 => exact (pvk 4 q_law__law_way_here (by rfl) (by rfl))
              case d290 => exact pa_nil
              case d291 => rfl
             case d287 => rfl
             case d288 => rfl
            case d276 => exact pe_bl
            case d277 => exact (nomark _)
           case d272 =>
            with_reducible refine' pss_one ?d292
            case d292 =>
             with_reducible refine' ps_ret ?d293
             case d293 => exact pe_bl
           case d273 => exact pss_nil
          case d270 =>
           with_reducible refine' pss_one ?d294
           case d294 =>
            with_reducible refine' ps_for ?d295 ?d296 ?d297 ?d298 ?d299 ?d300
            case d295 => exact PassesOwn.never
            case d296 => exact rfl
            case d297 =>
             with_reducible refine' pi_range1 ?d301 ?d302 ?d303 ?d304
             case d301 => exact q_law_range.lk
             case d302 => exact T.z_range
             case d303 =>
              with_reducible refine' pa_c ?d305 ?d306 ?d307
              case d305 => exact pe_int
              case d306 => exact pa_nil
              case d307 => rfl
             case d304 => rfl
            case d298 =>
             with_reducible refine' pg_name (i := 5) ?d308 ?d309 ?d310 ?d311
             case d308 => exact sc_law.nd
             case d309 => exact rfl
             case d310 => exact (Or.inl q_law__law_turn.lk)
             case d311 => exact (Or.inl rfl)
            case d299 =>
             with_reducible refine' pss_one ?d312
             case d312 =>
              with_reducible refine' ps_if ?d313 ?d314 ?d315
              case d313 =>
               with_reducible refine' PW.pt ?d316
               case d316 =>
                with_reducible refine' pw_or ?d317 ?d318
                case d317 =>
                 with_reducible refine' pt_not ?d319
                 case d319 =>
                  with_reducible refine' pt_val ?d320 ?d321
                  case d320 =>
                   with_reducible refine' pe_callk ?d322 ?d323 ?d324 ?d325 ?d326 ?d327 ?d328 ?d329 ?d330 ?d331 ?d332
                   case d322 => exact G__law_right
                   case d323 => exact (hr.mono (by omega))
                   case d324 => exact q_law__law_right
                   case d325 => exact T.m__law_right
                   case d326 => exact T.F__law_right.kp
                   case d327 => exact T.b__law_right
                   case d328 => exact .nil
                   case d329 => exact pass0
                   case d330 =>
                    with_reducible refine' pa_c ?d333 ?d334 ?d335
                    case d333 =>
                     with_reducible refine' pe_callk ?d336 ?d337 ?d338 ?d339 ?d340 ?d341 ?d342 ?d343 ?d344 ?d345 ?d346
                     case d336 => exact G__law_spoilt
                     case d337 => exact (hr.mono (by omega))
                     case d338 => exact q_law__law_spoilt
                     case d339 => exact T.m__law_spoilt
                     case d340 => exact T.F__law_spoilt.kp
                     case d341 => exact T.b__law_spoilt
                     case d342 => exact .nil
                     case d343 => exact pass0
                     case d344 =>
                      with_reducible refine' pa_c ?d347 ?d348 ?d349
                      case d347 => exact (pvk 3 q_law__law_hand_here (by rfl) (by rfl))
                      case d348 =>
                       with_reducible refine' pa_c ?d350 ?d351 ?d352
                       case d350 => exact (pvk 4 q_law__law_way_here (by rfl) (by rfl))
                       case d351 => exact pa_nil
                       case d352 => rfl
                      case d349 => rfl
                     case d345 => rfl
                     case d346 => rfl
                    case d334 => exact pa_nil
                    case d335 => rfl
                   case d331 => rfl
                   case d332 => rfl
                  case d321 => (intro _; rfl)
                case d318 =>
                 with_reducible refine' pw_or1 ?d353
                 case d353 =>
                  with_reducible refine' pt_not ?d354
                  case d354 =>
                   with_reducible refine' pt_val ?d355 ?d356
                   case d355 =>
                    with_reducible refine' pe_callk ?d357 ?d358 ?d359 ?d360 ?d361 ?d362 ?d363 ?d364 ?d365 ?d366 ?d367
                    case d357 => exact G__law_right
                    case d358 => exact (hr.mono (by omega))
                    case d359 => exact q_law__law_right
                    case d360 => exact T.m__law_right
                    case d361 => exact T.F__law_right.kp
                    case d362 => exact T.b__law_right
                    case d363 => exact .nil
                    case d364 => exact pass0
                    case d365 =>
                     with_reducible refine' pa_c ?d368 ?d369 ?d370
                     case d368 =>
                      with_reducible refine' pe_callk ?d371 ?d372 ?d373 ?d374 ?d375 ?d376 ?d377 ?d378 ?d379 ?d380 ?d381
                      case d371 => exact G__law_odd
                      case d372 => exact (hr.mono (by omega))
                      case d373 => exact q_law__law_odd
                      case d374 => exact T.m__law_odd
                      case d375 => exact T.F__law_odd.kp
                      case d376 => exact T.b__law_odd
                      case d377 => exact .nil
                      case d378 => exact pass0
                      case d379 =>
                       with_reducible refine' pa_c ?d382 ?d383 ?d384
                       case d382 => exact (pvk 3 q_law__law_hand_here (by rfl) (by rfl))
                       case d383 => exact pa_nil
                       case d384 => rfl
                      case d380 => rfl
                      case d381 => rfl
                     case d369 => exact pa_nil
                     case d370 => rfl
                    case d366 => rfl
                    case d367 => rfl
                   case d356 => (intro _; rfl)
              case d314 =>
               with_reducible refine' pss_one ?d385
               case d385 =>
                with_reducible refine' ps_ret ?d386
                case d386 => exact pe_bl
              case d315 => exact pss_nil
            case d300 => (intro _; rfl)
       case d161 => (intro _; rfl)
      case d155 =>
       with_reducible refine' pss_one ?d387
       case d387 =>
        with_reducible refine' ps_ret ?d388
        case d388 => exact pe_bl
  have fe : ∀ k, (D.tup [dS "empty"]).fin (k + 1) := fun k => fin_tup (fins_cons (fin_str (by decide +kernel) _) (fins_nil _))
  walk_at "x"
  refine ⟨small (by simp), fun l0 hl0 => ?_⟩
  walk_at "x"
  refine v_for ?_
  walk_at "x"
  refine ⟨12, rfl, by decide, by decide, ?_⟩
  refine for_range (fun i σ H4 => ∃ (v : V) (d : D) (v2 : Option V), σ = [some (.ref a), some v, v2, none, none, none] ∧ Rep H4 d v ∧ isW d ∧ d.fin (i + 1) ∧ Same H H4) ⟨_, .tup [dS "empty"], none, rfl, ⟨l0, _, rfl, upd_same, _, _, rfl, rfl, rfl⟩, isW_empty, fe _, same_new hl0 _⟩ ?_ ?_
  · rintro i σ H4 hi ⟨v, d, v2, rfl, hv, hW, hf, sH⟩
    walk_at "x"
    refine ⟨small (by simp), fun p1 hp1 => ?_⟩
    walk_at "x"
    refine ⟨small (by simp), fun p2 hp2 => ?_⟩
    walk_at "x"
    refine ⟨small (by simp), fun p3 hp3 => ?_⟩
    walk_at "x"
    refine ⟨small (by simp), fun p4 hp4 => ?_⟩
    walk_at "x"
    refine ⟨small (by simp), fun p5 hp5 => ?_⟩
    walk_at "x"
    have sA := ((((same_new (H := H4) hp1 _).trans (same_new hp2 _)).trans (same_new hp3 _)).trans (same_new hp4 _)).trans (same_new hp5 (.tup [V.ref p1, V.ref p3, V.ref p4]))
    have hvA := hv.same sA
    refine v_ixAnyT upd_same (by omega) (by simp; omega) fun vx hvx => ?_
    refine v_name ?_
    simp only [List.mem_cons, List.not_mem_nil, or_false] at hvx
    rcases hvx with rfl | rfl | rfl
    · refine ⟨_, .tup [dS "again", d], _, rfl, ⟨p1, _, rfl, by walk_at "hg", _, _, rfl, rfl, _, _, rfl, hvA, rfl⟩, isW_again hW, fin_tup (fins_cons (fin_str (by decide +kernel) _) (fins_cons hf (fins_nil _))), sH.trans sA⟩
    · refine ⟨_, .tup [dS "then", .tup [dS "empty"], d], _, rfl, ⟨p3, _, rfl, by walk_at "hg", _, _, rfl, rfl, _, _, rfl, ⟨p2, _, rfl, by walk_at "hg", _, _, rfl, rfl, rfl⟩, _, _, rfl, hvA, rfl⟩, isW_two (.inl rfl) isW_empty hW, fin_tup (fins_cons (fin_str (by decide +kernel) _) (fins_cons (fe _) (fins_cons hf (fins_nil _)))), sH.trans sA⟩
    · refine ⟨_, .tup [dS "many", d, .int 0, .int 6], _, rfl, ⟨p4, _, rfl, by walk_at "hg", _, _, rfl, rfl, _, _, rfl, hvA, _, _, rfl, rfl, _, _, rfl, rfl, rfl⟩, isW_many hW (by decide) (by decide) (by decide), fin_tup (fins_cons (fin_str (by decide +kernel) _) (fins_cons hf (fins_cons (fin_int _ _) (fins_cons (fin_int _ _) (fins_nil _))))), sH.trans sA⟩
  · rintro σ H4 ⟨v, d, v2, rfl, hv, hW, hf, sH⟩
    have hf13 : d.fin 13 := hf
    walk_at "x"
    refine ⟨v, d, rfl, hv, hf13.1, by have := hf13.2.2; omega, by have := hf13.2.2; omega, fun H5 s5 => ?_⟩
    rw [hW.1 20 (by have := hf13.2.2; omega)]
    obtain ⟨z, ds, rfl⟩ := hW.2.2
    walk_at "x"
    obtain ⟨b5, xs5, rfl, e5, hs5⟩ := hv.same s5
    refine ⟨b5, xs5, rfl, .inr (SqT.of e5), fun l6 hl6 => ?_⟩
    have s6 : Same H5 (upd H5 l6 (.lst xs5)) := same_new hl6 _
    have hv6 : Rep (upd H5 l6 (.lst xs5)) (.lst (.str z :: ds)) (.ref l6) := ⟨l6, _, rfl, upd_same, hs5.same s6⟩
    generalize upd H5 l6 (.lst xs5) = H6 at s6 hv6 ⊢
    walk_at "x"
    refine ⟨small (by simp), fun p7 hp7 => ?_⟩
    walk_at "x"
    have fl : (D.lst (.str z :: ds)).fin 13 := fin_lst (fin_un hf13) (fun i r e => by cases e)
    have fa : (D.tup [dS "again", .lst (.str z :: ds)]).fin 14 := fin_tup (fins_cons (fin_str (by decide +kernel) _) (fins_cons fl (fins_nil _)))
    refine ⟨_, .tup [dS "again", .lst (.str z :: ds)], rfl, ⟨p7, _, rfl, upd_same, _, _, rfl, rfl, _, _, rfl, hv6.same (same_new hp7 _), rfl⟩, fa.1, by have := fa.2.2; omega, by have := fa.2.2; omega, fun H8 s8 => ?_⟩
    have e8 : isWayF 20 (.tup [dS "again", .lst (.str z :: ds)]) = false := by
      rw [wayF_eq, if_neg (by decide +kernel), if_neg (by decide +kernel), if_neg (by decide +kernel), if_pos (by decide +kernel)]
      rfl
    rw [e8]
    have sH8 : Same H H8 := (((sH.trans s5).trans s6).trans (same_new hp7 _)).trans s8
    walk_at "x"
    refine v_for ?_
    walk_at "x"
    refine ⟨a, _, rfl, .inl (sq_same hS sH8), ?_⟩
    walk_at "x"
    refine ⟨_, _, rfl, ?_⟩
    walk_at "x"
    refine ⟨_, rfl, by split <;> omega, by split <;> omega, ?_⟩
    refine for_range (fun i σ H9 => ∃ (v2 v3 v4 v5 : Option V), σ = [some (.ref a), some (.ref b5), v2, v3, v4, v5] ∧ Same H H9) ⟨_, _, _, _, rfl, sH8⟩ ?_ ?_
    · rintro i σ H9 hi ⟨v2', v3', v4', v5', rfl, sH9⟩
      have hi5 : i ≤ 5 := by
        have : i < (1 + (if (((ns.map V.int).length : Int) < 4) then ((ns.map V.int).length : Int) else 4)).toNat := hi
        split at this <;> omega
      walk_at "x"
      refine ⟨a, ns, _, rfl, sq_same hS sH9, hl, by omega, by omega, fun p H10 hh10 s10 hp9 => ?_⟩
      have hpH : H p = none := sH9.free hp9
      walk_at "x"
      refine ⟨p, 0, rfl, hh10, by decide, fun l xs H11 el hnm nlp hh11 kb11 => ?_⟩
      walk_at "x"
      refine ⟨p, _, l, xs, 12, 2, rfl, by decide, by decide, by decide, by decide, hh11, by decide, el, hnm, nlp, fun vw dw H12 hvw hWw hfw hh12 kb12 => ?_⟩
      have sH12 : Same H H12 := same_kb (same_kb (sH9.trans s10) kb11 hpH) kb12 hpH
      walk_at "x"
      refine ⟨vw, dw, rfl, hvw, hfw.1, by have := hfw.2.2; omega, by have := hfw.2.2; omega, fun H13 s13 => ?_⟩
      rw [hWw.1 20 (by have := hfw.2.2; omega)]
      walk_at "x"
      with_reducible refine v_for ?_
      walk_at "x"
      refine ⟨8, rfl, by decide, by decide, ?_⟩
      refine for_range (fun j σ H14 => ∃ (c : Int) (v5 : Option V), σ = [some (.ref a), some (.ref b5), some (.int (0 + (i : Int))), some (.ref p), some vw, v5] ∧ Hd H14 p c ∧ c ≤ 200 + 100 * (j : Int) ∧ Rep H14 dw vw ∧ Same H H14) ⟨_, _, rfl, hh12.same s13, by omega, hvw.same s13, sH12.trans s13⟩ ?_ ?_
      · rintro j σ H14 hj ⟨c, v5'', rfl, hh14, hc14, hv14, sH14⟩
        have hj8 : j < 8 := hj
        walk_at "x"
        refine ⟨p, c, vw, dw, 12, rfl, by decide, by decide, hh14, by omega, hv14, hWw.2.1, hfw, fun vb db H15 hvb hfb hh15 kb15 => ?_⟩
        have hv15 := hv14.keepT hh14 kb15 hfw.2.1
        walk_at "x"
        refine ⟨vb, db, rfl, hvb, hfb.1, by have := hfb.2.2; omega, fun H16 s16 => ?_⟩
        walk_at "x"
        refine ⟨p, _, rfl, hh15.same s16, by omega, fun vo od H17 hvo hfo hh17 kb17 => ?_⟩
        have hv17 := (hv15.same s16).keepT (hh15.same s16) kb17 hfw.2.1
        walk_at "x"
        refine ⟨vo, od, rfl, hvo, hfo.1, by have := hfo.2.2; omega, fun H18 s18 => ?_⟩
        walk_at "x"
        exact ⟨_, _, rfl, hh17.same s18, by omega, hv17.same s18, (same_kb ((same_kb sH14 kb15 hpH).trans s16) kb17 hpH).trans s18⟩
      · rintro σ H14 ⟨c, v5'', rfl, hh14, hc14, hv14, sH14⟩
        walk_at "x"
        exact ⟨_, _, _, _, rfl, sH14⟩
    · rintro σ H9 ⟨v2', v3', v4', v5', rfl, sH9⟩
      walk_at "x"
      exact k _
end
theorem txt_mk {K : PySem.W.Frag} {h : Heap} {mg : Str → Option Value} {f0 f1 f2 f3 f4 f5 f6 f7 f8 f9 f10 f11 f12 f13 f14 f15 : Addr} (X : K.In h) (G : h.Ns mainGlobals mg)
    {od0 an0 od1 an1 od2 an2 od3 an3 od4 an4 od5 an5 od6 an6 od7 an7 od8 an8 od9 an9 od10 an10 od11 an11 od12 an12 od13 an13 od14 an14 od15 an15 : Option Addr} {sl0 sl1 sl2 sl3 sl4 sl5 sl6 sl7 sl8 sl9 sl10 sl11 sl12 sl13 sl14 sl15 : Array (Option Value)} {oc0 kV0 dc0 pm0 cd0 ct0 oc1 kV1 dc1 pm1 cd1 ct1 oc2 kV2 dc2 pm2 cd2 ct2 oc3 kV3 dc3 pm3 cd3 ct3 oc4 kV4 dc4 pm4 cd4 ct4 oc5 kV5 dc5 pm5 cd5 ct5 oc6 kV6 dc6 pm6 cd6 ct6 oc7 kV7 dc7 pm7 cd7 ct7 oc8 kV8 dc8 pm8 cd8 ct8 oc9 kV9 dc9 pm9 cd9 ct9 oc10 kV10 dc10 pm10 cd10 ct10 oc11 kV11 dc11 pm11 cd11 ct11 oc12 kV12 dc12 pm12 cd12 ct12 oc13 kV13 dc13 pm13 cd13 ct13 oc14 kV14 dc14 pm14 cd14 ct14 oc15 kV15 dc15 pm15 cd15 ct15 : Value}
    (a0 : PySem.W.nsIn K mainGlobals "is_name" = some (some (.ref f0))) (l0 : K.lookup f0 = some ⟨oc0, od0, .func (PySem.W.fnOf "is_name" "is_name" (defArgs s_is_name) (defBody s_is_name) (defScope s_is_name) .none kV0 dc0 pm0 an0 cd0 ct0), sl0⟩) (c0 : PySem.W.codeIn K cd0 "is_name" = true) (k0 : PySem.W.keepIn K (.ref f0) = true)
    (a1 : PySem.W.nsIn K mainGlobals "is_number" = some (some (.ref f1))) (l1 : K.lookup f1 = some ⟨oc1, od1, .func (PySem.W.fnOf "is_number" "is_number" (defArgs s_is_number) (defBody s_is_number) (defScope s_is_number) .none kV1 dc1 pm1 an1 cd1 ct1), sl1⟩) (c1 : PySem.W.codeIn K cd1 "is_number" = true) (k1 : PySem.W.keepIn K (.ref f1) = true)
    (a2 : PySem.W.nsIn K mainGlobals "is_way" = some (some (.ref f2))) (l2 : K.lookup f2 = some ⟨oc2, od2, .func (PySem.W.fnOf "is_way" "is_way" (defArgs s_is_way) (defBody s_is_way) (defScope s_is_way) .none kV2 dc2 pm2 an2 cd2 ct2), sl2⟩) (c2 : PySem.W.codeIn K cd2 "is_way" = true) (k2 : PySem.W.keepIn K (.ref f2) = true)
    (a3 : PySem.W.nsIn K mainGlobals "are_times" = some (some (.ref f3))) (l3 : K.lookup f3 = some ⟨oc3, od3, .func (PySem.W.fnOf "are_times" "are_times" (defArgs s_are_times) (defBody s_are_times) (defScope s_are_times) .none kV3 dc3 pm3 an3 cd3 ct3), sl3⟩) (c3 : PySem.W.codeIn K cd3 "are_times" = true) (k3 : PySem.W.keepIn K (.ref f3) = true)
    (a4 : PySem.W.nsIn K mainGlobals "_law_hand" = some (some (.ref f4))) (l4 : K.lookup f4 = some ⟨oc4, od4, .func (PySem.W.fnOf "_law_hand" "_law_hand" (defArgs s__law_hand) (defBody s__law_hand) (defScope s__law_hand) .none kV4 dc4 pm4 an4 cd4 ct4), sl4⟩) (c4 : PySem.W.codeIn K cd4 "_law_hand" = true) (k4 : PySem.W.keepIn K (.ref f4) = true)
    (a5 : PySem.W.nsIn K mainGlobals "_law_take" = some (some (.ref f5))) (l5 : K.lookup f5 = some ⟨oc5, od5, .func (PySem.W.fnOf "_law_take" "_law_take" (defArgs s__law_take) (defBody s__law_take) (defScope s__law_take) .none kV5 dc5 pm5 an5 cd5 ct5), sl5⟩) (c5 : PySem.W.codeIn K cd5 "_law_take" = true) (k5 : PySem.W.keepIn K (.ref f5) = true)
    (a6 : PySem.W.nsIn K mainGlobals "_law_kinds" = some (some (.ref f6))) (l6 : K.lookup f6 = some ⟨oc6, od6, .func (PySem.W.fnOf "_law_kinds" "_law_kinds" (defArgs s__law_kinds) (defBody s__law_kinds) (defScope s__law_kinds) .none kV6 dc6 pm6 an6 cd6 ct6), sl6⟩) (c6 : PySem.W.codeIn K cd6 "_law_kinds" = true) (k6 : PySem.W.keepIn K (.ref f6) = true)
    (a7 : PySem.W.nsIn K mainGlobals "_law_leaf" = some (some (.ref f7))) (l7 : K.lookup f7 = some ⟨oc7, od7, .func (PySem.W.fnOf "_law_leaf" "_law_leaf" (defArgs s__law_leaf) (defBody s__law_leaf) (defScope s__law_leaf) .none kV7 dc7 pm7 an7 cd7 ct7), sl7⟩) (c7 : PySem.W.codeIn K cd7 "_law_leaf" = true) (k7 : PySem.W.keepIn K (.ref f7) = true)
    (a8 : PySem.W.nsIn K mainGlobals "_law_way" = some (some (.ref f8))) (l8 : K.lookup f8 = some ⟨oc8, od8, .func (PySem.W.fnOf "_law_way" "_law_way" (defArgs s__law_way) (defBody s__law_way) (defScope s__law_way) .none kV8 dc8 pm8 an8 cd8 ct8), sl8⟩) (c8 : PySem.W.codeIn K cd8 "_law_way" = true) (k8 : PySem.W.keepIn K (.ref f8) = true)
    (a9 : PySem.W.nsIn K mainGlobals "_law_is_name" = some (some (.ref f9))) (l9 : K.lookup f9 = some ⟨oc9, od9, .func (PySem.W.fnOf "_law_is_name" "_law_is_name" (defArgs s__law_is_name) (defBody s__law_is_name) (defScope s__law_is_name) .none kV9 dc9 pm9 an9 cd9 ct9), sl9⟩) (c9 : PySem.W.codeIn K cd9 "_law_is_name" = true) (k9 : PySem.W.keepIn K (.ref f9) = true)
    (a10 : PySem.W.nsIn K mainGlobals "_law_is_times" = some (some (.ref f10))) (l10 : K.lookup f10 = some ⟨oc10, od10, .func (PySem.W.fnOf "_law_is_times" "_law_is_times" (defArgs s__law_is_times) (defBody s__law_is_times) (defScope s__law_is_times) .none kV10 dc10 pm10 an10 cd10 ct10), sl10⟩) (c10 : PySem.W.codeIn K cd10 "_law_is_times" = true) (k10 : PySem.W.keepIn K (.ref f10) = true)
    (a11 : PySem.W.nsIn K mainGlobals "_law_due" = some (some (.ref f11))) (l11 : K.lookup f11 = some ⟨oc11, od11, .func (PySem.W.fnOf "_law_due" "_law_due" (defArgs s__law_due) (defBody s__law_due) (defScope s__law_due) .none kV11 dc11 pm11 an11 cd11 ct11), sl11⟩) (c11 : PySem.W.codeIn K cd11 "_law_due" = true) (k11 : PySem.W.keepIn K (.ref f11) = true)
    (a12 : PySem.W.nsIn K mainGlobals "_law_odd" = some (some (.ref f12))) (l12 : K.lookup f12 = some ⟨oc12, od12, .func (PySem.W.fnOf "_law_odd" "_law_odd" (defArgs s__law_odd) (defBody s__law_odd) (defScope s__law_odd) .none kV12 dc12 pm12 an12 cd12 ct12), sl12⟩) (c12 : PySem.W.codeIn K cd12 "_law_odd" = true) (k12 : PySem.W.keepIn K (.ref f12) = true)
    (a13 : PySem.W.nsIn K mainGlobals "_law_spoilt" = some (some (.ref f13))) (l13 : K.lookup f13 = some ⟨oc13, od13, .func (PySem.W.fnOf "_law_spoilt" "_law_spoilt" (defArgs s__law_spoilt) (defBody s__law_spoilt) (defScope s__law_spoilt) .none kV13 dc13 pm13 an13 cd13 ct13), sl13⟩) (c13 : PySem.W.codeIn K cd13 "_law_spoilt" = true) (k13 : PySem.W.keepIn K (.ref f13) = true)
    (a14 : PySem.W.nsIn K mainGlobals "_law_right" = some (some (.ref f14))) (l14 : K.lookup f14 = some ⟨oc14, od14, .func (PySem.W.fnOf "_law_right" "_law_right" (defArgs s__law_right) (defBody s__law_right) (defScope s__law_right) .none kV14 dc14 pm14 an14 cd14 ct14), sl14⟩) (c14 : PySem.W.codeIn K cd14 "_law_right" = true) (k14 : PySem.W.keepIn K (.ref f14) = true)
    (a15 : PySem.W.nsIn K mainGlobals "law" = some (some (.ref f15))) (l15 : K.lookup f15 = some ⟨oc15, od15, .func (PySem.W.fnOf "law" "law" (defArgs s_law) (defBody s_law) (defScope s_law) .none kV15 dc15 pm15 an15 cd15 ct15), sl15⟩) (c15 : PySem.W.codeIn K cd15 "law" = true) (k15 : PySem.W.keepIn K (.ref f15) = true)
    (z_abs : PySem.W.nsIn K mainGlobals "abs" = some none)
    (z_all : PySem.W.nsIn K mainGlobals "all" = some none)
    (z_bool : PySem.W.nsIn K mainGlobals "bool" = some none)
    (z_int : PySem.W.nsIn K mainGlobals "int" = some none)
    (z_isinstance : PySem.W.nsIn K mainGlobals "isinstance" = some none)
    (z_len : PySem.W.nsIn K mainGlobals "len" = some none)
    (z_list : PySem.W.nsIn K mainGlobals "list" = some none)
    (z_min : PySem.W.nsIn K mainGlobals "min" = some none)
    (z_range : PySem.W.nsIn K mainGlobals "range" = some none)
    (z_str : PySem.W.nsIn K mainGlobals "str" = some none)
    (z_tuple : PySem.W.nsIn K mainGlobals "tuple" = some none)
    {tk_LONGEST_NAME : Tok} (c_LONGEST_NAME : PySem.W.nsIn K mainGlobals "LONGEST_NAME" = some (some (.int 8 tk_LONGEST_NAME)))
    {tk_MOST_TIMES : Tok} (c_MOST_TIMES : PySem.W.nsIn K mainGlobals "MOST_TIMES" = some (some (.int 6 tk_MOST_TIMES)))
    : ∃ t, Txt K mg t ∧ t.f_law = f15 ∧ t.d_law = PySem.W.fnOf "law" "law" (defArgs s_law) (defBody s_law) (defScope s_law) .none kV15 dc15 pm15 an15 cd15 ct15 := by
  have F0 := fun_mk (st := s_is_name) l0 c0 k0
  have b0 := F0.binds (ps := ["thing"]) fun _ _ _ _ _ _ us hl => match us, hl with | [_], _ => rfl
  have F1 := fun_mk (st := s_is_number) l1 c1 k1
  have b1 := F1.binds (ps := ["thing"]) fun _ _ _ _ _ _ us hl => match us, hl with | [_], _ => rfl
  have F2 := fun_mk (st := s_is_way) l2 c2 k2
  have b2 := F2.binds (ps := ["thing"]) fun _ _ _ _ _ _ us hl => match us, hl with | [_], _ => rfl
  have F3 := fun_mk (st := s_are_times) l3 c3 k3
  have b3 := F3.binds (ps := ["low", "high"]) fun _ _ _ _ _ _ us hl => match us, hl with | [_, _], _ => rfl
  have F4 := fun_mk (st := s__law_hand) l4 c4 k4
  have b4 := F4.binds (ps := ["_law_script", "_law_k"]) fun _ _ _ _ _ _ us hl => match us, hl with | [_, _], _ => rfl
  have F5 := fun_mk (st := s__law_take) l5 c5 k5
  have b5 := F5.binds (ps := ["_law_hand_here", "_law_many"]) fun _ _ _ _ _ _ us hl => match us, hl with | [_, _], _ => rfl
  have F6 := fun_mk (st := s__law_kinds) l6 c6 k6
  have b6 := F6.binds (ps := ["_law_hand_here"]) fun _ _ _ _ _ _ us hl => match us, hl with | [_], _ => rfl
  have F7 := fun_mk (st := s__law_leaf) l7 c7 k7
  have b7 := F7.binds (ps := ["_law_hand_here", "_law_kinds_here"]) fun _ _ _ _ _ _ us hl => match us, hl with | [_, _], _ => rfl
  have F8 := fun_mk (st := s__law_way) l8 c8 k8
  have b8 := F8.binds (ps := ["_law_hand_here", "_law_kinds_here", "_law_room", "_law_nest"]) fun _ _ _ _ _ _ us hl => match us, hl with | [_, _, _, _], _ => rfl
  have F9 := fun_mk (st := s__law_is_name) l9 c9 k9
  have b9 := F9.binds (ps := ["_law_thing"]) fun _ _ _ _ _ _ us hl => match us, hl with | [_], _ => rfl
  have F10 := fun_mk (st := s__law_is_times) l10 c10 k10
  have b10 := F10.binds (ps := ["_law_thing"]) fun _ _ _ _ _ _ us hl => match us, hl with | [_], _ => rfl
  have F11 := fun_mk (st := s__law_due) l11 c11 k11
  have b11 := F11.binds (ps := ["_law_thing"]) fun _ _ _ _ _ _ us hl => match us, hl with | [_], _ => rfl
  have F12 := fun_mk (st := s__law_odd) l12 c12 k12
  have b12 := F12.binds (ps := ["_law_hand_here"]) fun _ _ _ _ _ _ us hl => match us, hl with | [_], _ => rfl
  have F13 := fun_mk (st := s__law_spoilt) l13 c13 k13
  have b13 := F13.binds (ps := ["_law_hand_here", "_law_thing"]) fun _ _ _ _ _ _ us hl => match us, hl with | [_, _], _ => rfl
  have F14 := fun_mk (st := s__law_right) l14 c14 k14
  have b14 := F14.binds (ps := ["_law_thing"]) fun _ _ _ _ _ _ us hl => match us, hl with | [_], _ => rfl
  have F15 := fun_mk (st := s_law) l15 c15 k15
  have b15 := F15.binds (ps := ["_law_script"]) fun _ _ _ _ _ _ us hl => match us, hl with | [_], _ => rfl
  exact ⟨⟨f0, _, f1, _, f2, _, f3, _, f4, _, f5, _, f6, _, f7, _, f8, _, f9, _, f10, _, f11, _, f12, _, f13, _, f14, _, f15, _, _, _⟩, ⟨F0, b0, PySem.W.mg_of X G a0, F1, b1, PySem.W.mg_of X G a1, F2, b2, PySem.W.mg_of X G a2, F3, b3, PySem.W.mg_of X G a3, F4, b4, PySem.W.mg_of X G a4, F5, b5, PySem.W.mg_of X G a5, F6, b6, PySem.W.mg_of X G a6, F7, b7, PySem.W.mg_of X G a7, F8, b8, PySem.W.mg_of X G a8, F9, b9, PySem.W.mg_of X G a9, F10, b10, PySem.W.mg_of X G a10, F11, b11, PySem.W.mg_of X G a11, F12, b12, PySem.W.mg_of X G a12, F13, b13, PySem.W.mg_of X G a13, F14, b14, PySem.W.mg_of X G a14, F15, b15, PySem.W.mg_of X G a15, PySem.W.mg_none_of X G z_abs, PySem.W.mg_none_of X G z_all, PySem.W.mg_none_of X G z_bool, PySem.W.mg_none_of X G z_int, PySem.W.mg_none_of X G z_isinstance, PySem.W.mg_none_of X G z_len, PySem.W.mg_none_of X G z_list, PySem.W.mg_none_of X G z_min, PySem.W.mg_none_of X G z_range, PySem.W.mg_none_of X G z_str, PySem.W.mg_none_of X G z_tuple, PySem.W.mg_of X G c_LONGEST_NAME, ⟨_, rfl⟩, PySem.W.mg_of X G c_MOST_TIMES, ⟨_, rfl⟩⟩, rfl, rfl⟩
end K14
open PySem PySem.W PyProof.Rows
set_option maxRecDepth 100000 in
set_option maxHeartbeats 0 in
theorem PySem.Challenge.cw_webstore_k14_what_ways_are_holds : PySem.Challenge.rw_webstore_k14_what_ways_are.Holds := by
  w_on; o_law; k_head; (case hw => w_witness2)
  k_fill
  refine L2.walk_ofK (l := PySem.Challenge.rw_webstore_k14_what_ways_are) (n := 63) (k := 40) (x := "_law_script") (CX := L2.CX0) (sp := K14.spLaw) rfl (by decide) rfl ⟨rfl, by decide, by decide⟩ (fun w h Y => PySem.W.kIn_of Y) ?F ?S ?C
  case F =>
    intro w mg fa h KX G hmg
    have Z : ∃ f kV dc pm an cd ct t, K14.Txt (L2.KOf KX) mg t ∧ t.f_law = f ∧ t.d_law = PySem.W.fnOf "law" "law" (L2.defArgs K14.s_law) (L2.defBody K14.s_law) (L2.defScope K14.s_law) .none kV dc pm an cd ct := by
      dsimp only [L2.KOf]
      refine' ⟨_, _, _, _, _, _, _, K14.txt_mk KX G ?a0 ?l0 ?c0 ?k0 ?a1 ?l1 ?c1 ?k1 ?a2 ?l2 ?c2 ?k2 ?a3 ?l3 ?c3 ?k3 ?a4 ?l4 ?c4 ?k4 ?a5 ?l5 ?c5 ?k5 ?a6 ?l6 ?c6 ?k6 ?a7 ?l7 ?c7 ?k7 ?a8 ?l8 ?c8 ?k8 ?a9 ?l9 ?c9 ?k9 ?a10 ?l10 ?c10 ?k10 ?a11 ?l11 ?c11 ?k11 ?a12 ?l12 ?c12 ?k12 ?a13 ?l13 ?c13 ?k13 ?a14 ?l14 ?c14 ?k14 ?a15 ?l15 ?c15 ?k15 ?z_abs ?z_all ?z_bool ?z_int ?z_isinstance ?z_len ?z_list ?z_min ?z_range ?z_str ?z_tuple ?c_LONGEST_NAME ?c_MOST_TIMES⟩
      (case a0 => k_is)
      (case l0 => k_is)
      (case c0 => k_is)
      (case k0 => k_is)
      (case a1 => k_is)
      (case l1 => k_is)
      (case c1 => k_is)
      (case k1 => k_is)
      (case a2 => k_is)
      (case l2 => k_is)
      (case c2 => k_is)
      (case k2 => k_is)
      (case a3 => k_is)
      (case l3 => k_is)
      (case c3 => k_is)
      (case k3 => k_is)
      (case a4 => k_is)
      (case l4 => k_is)
      (case c4 => k_is)
      (case k4 => k_is)
      (case a5 => k_is)
      (case l5 => k_is)
      (case c5 => k_is)
      (case k5 => k_is)
      (case a6 => k_is)
      (case l6 => k_is)
      (case c6 => k_is)
      (case k6 => k_is)
      (case a7 => k_is)
      (case l7 => k_is)
      (case c7 => k_is)
      (case k7 => k_is)
      (case a8 => k_is)
      (case l8 => k_is)
      (case c8 => k_is)
      (case k8 => k_is)
      (case a9 => k_is)
      (case l9 => k_is)
      (case c9 => k_is)
      (case k9 => k_is)
      (case a10 => k_is)
      (case l10 => k_is)
      (case c10 => k_is)
      (case k10 => k_is)
      (case a11 => k_is)
      (case l11 => k_is)
      (case c11 => k_is)
      (case k11 => k_is)
      (case a12 => k_is)
      (case l12 => k_is)
      (case c12 => k_is)
      (case k12 => k_is)
      (case a13 => k_is)
      (case l13 => k_is)
      (case c13 => k_is)
      (case k13 => k_is)
      (case a14 => k_is)
      (case l14 => k_is)
      (case c14 => k_is)
      (case k14 => k_is)
      (case a15 => k_is)
      (case l15 => k_is)
      (case c15 => k_is)
      (case k15 => k_is)
      (case z_abs => k_is)
      (case z_all => k_is)
      (case z_bool => k_is)
      (case z_int => k_is)
      (case z_isinstance => k_is)
      (case z_len => k_is)
      (case z_list => k_is)
      (case z_min => k_is)
      (case z_range => k_is)
      (case z_str => k_is)
      (case z_tuple => k_is)
      (case c_LONGEST_NAME => k_is)
      (case c_MOST_TIMES => k_is)
    obtain ⟨f, kV, dc, pm, an, cd, ct, t, hT, hf, hd⟩ := Z
    have e := hmg.symm.trans hT.m_law
    rw [hf] at e
    cases e
    subst hf
    refine ⟨t.d_law, fun s u => by rw [hd]; exact .of_eq rfl, fun base kb nb => (K14.ok_law hT).mono (by decide)⟩
  case S => exact fun K H a ns hl hO hS => K14.spLaw_of hl hS
  case C => exact fun _ _ _ _ z => z
#print axioms PySem.Challenge.cw_webstore_k14_what_ways_are_holds

