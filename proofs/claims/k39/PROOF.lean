import PyProof.Rows.All
import Wide.All
import OpenK.AllK
import Wide.FinOn
import Lean
import PyProof.EqAt
import PyProof.EqKinds
import PyProof.TupleCall
import PyProof.NeKinds
import PyProof.StrLawsIn
import PyProof.Draws
import PyProof.ZipIter
import PyProof.EnumMake
import PyProof.EnumFor
import KE.KRevIter
import PyProof.CollectWalk
import KE.KItemsList
import PySem.Challenge.RW_webstore_k39_what_patterns_are
-- CHANGE: your row's module here, as the last of these rows
set_option Elab.async false
set_option genSizeOfSpec false
set_option linter.all false
set_option maxRecDepth 100000
namespace L2
open PySem PySem.Spec PyProof.Rows
abbrev Key := Sum Int Str
noncomputable def keyIs : Key → Value → Bool
  | .inl k, v => Value.isInt k v
  | .inr x, v => Value.isStrOf x v
noncomputable def keyH (w : World) : Key → Int
  | .inl k => hashInt k
  | .inr x => hashStr w x
theorem keyIs_shape : ∀ {k : Key} {v : Value}, keyIs k v = true → (∃ i t, k = Sum.inl i ∧ v = Value.int i t) ∨ (∃ x t, k = Sum.inr x ∧ v = Value.str x t)
  | .inl i, v, h => by
    obtain ⟨t, e⟩ := Value.isInt_shape (k := i) (v := v) h
    exact .inl ⟨i, t, rfl, e⟩
  | .inr x, v, h => by
    obtain ⟨t, e⟩ := Value.isStrOf_shape (x := x) (v := v) h
    exact .inr ⟨x, t, rfl, e⟩
theorem keyIs_int (i : Int) (t : Tok) : keyIs (.inl i) (.int i t) = true := by simp [keyIs, Value.isInt]
theorem keyIs_str (x : Str) (t : Tok) : keyIs (.inr x) (.str x t) = true := by simp [keyIs, Value.isStrOf]
theorem key_ll (a b : Int) : decide ((Sum.inl a : Key) = Sum.inl b) = (a == b) := by
  by_cases e : a = b
  · subst e; simp
  · have h : ¬ (Sum.inl a : Key) = Sum.inl b := fun q => e (Sum.inl.inj q)
    rw [decide_eq_false h]
    exact (beq_eq_false_iff_ne.mpr e).symm
theorem key_rr (a b : Str) : decide ((Sum.inr a : Key) = Sum.inr b) = decide (a = b) := by
  by_cases e : a = b
  · subst e; simp
  · have h : ¬ (Sum.inr a : Key) = Sum.inr b := fun q => e (Sum.inr.inj q)
    rw [decide_eq_false h, decide_eq_false e]
theorem key_lr (a : Int) (b : Str) : decide ((Sum.inl a : Key) = Sum.inr b) = false := decide_eq_false (fun q => nomatch q)
theorem key_rl (a : Str) (b : Int) : decide ((Sum.inr a : Key) = Sum.inl b) = false := decide_eq_false (fun q => nomatch q)

noncomputable def mixKind (prog : Program) (w : World) : PySem.KeyKind prog w Key where
  is := keyIs
  hash := keyH w
  inj := fun v a b ha hb => by
    rcases keyIs_shape ha with ⟨i, t, rfl, rfl⟩ | ⟨x, t, rfl, rfl⟩
    · rcases keyIs_shape hb with ⟨j, u, rfl, e⟩ | ⟨y, u, rfl, e⟩
      · injection e with e1 _; rw [e1]
      · exact nomatch e
    · rcases keyIs_shape hb with ⟨j, u, rfl, e⟩ | ⟨y, u, rfl, e⟩
      · exact nomatch e
      · injection e with e1 _; rw [e1]
  byValue := fun k v h => by
    rcases keyIs_shape h with ⟨i, t, rfl, rfl⟩ | ⟨x, t, rfl, rfl⟩ <;> rfl
  pyHash := fun hv h => by
    rcases keyIs_shape hv with ⟨i, t, rfl, rfl⟩ | ⟨x, t, rfl, rfl⟩
    · exact wpAny_pyHash_int h
    · exact wpAny_pyHash_str h
  eqBool := fun hu hv h => by
    rcases keyIs_shape hu with ⟨i, t, rfl, rfl⟩ | ⟨x, t, rfl, rfl⟩
    · rcases keyIs_shape hv with ⟨j, u, rfl, rfl⟩ | ⟨y, u, rfl, rfl⟩
      · rw [key_ll] at h; exact wpAny_eqBool_int h
      · rw [key_lr] at h; exact SeqAt.EqAt.int_str i t y u _ _ _ _ h
    · rcases keyIs_shape hv with ⟨j, u, rfl, rfl⟩ | ⟨y, u, rfl, rfl⟩
      · rw [key_rl] at h; exact SeqAt.EqAt.str_int x t j u _ _ _ _ h
      · rw [key_rr] at h; exact wpAny_eqBool_str h
  «strs» := fun k x t v h => by
    rcases keyIs_shape h with ⟨i, u, rfl, e⟩ | ⟨y, u, rfl, e⟩
    · exact nomatch e
    · injection e with e1 _
      subst e1
      cases v <;> rfl

theorem mixKind_int (prog : Program) (w : World) (i : Int) (t : Tok) : (mixKind prog w).is (.inl i) (.int i t) = true := keyIs_int i t
theorem mixKind_str (prog : Program) (w : World) (x : Str) (t : Tok) : (mixKind prog w).is (.inr x) (.str x t) = true := keyIs_str x t
end L2
namespace L2
open PySem PySem.Spec PyProof.Rows
inductive V where
  | non | bl (b : Bool) | int (i : Int) | str (x : Str) | byt (b : Array UInt8) | flt (b : UInt64) | ref (a : Addr) | ty (n : String)
  deriving DecidableEq

noncomputable def RelV : V → Value → Prop
  | .non, u => u = Value.none
  | .bl b, u => u = Value.bool b
  | .int i, u => ∃ t, u = Value.int i t
  | .str x, u => ∃ t, u = Value.str x t
  | .byt b, u => ∃ t, u = Value.bytes b t
  | .flt b, u => ∃ t, u = Value.float b t
  | .ref a, u => u = Value.ref a
  | .ty n, u => u = Value.type n

abbrev Vals : List V → List Value → Prop := Paired RelV
theorem Vals.length {xs : List V} {us : List Value} (r : Vals xs us) : xs.length = us.length := Paired.length r
theorem Vals.get : ∀ {xs : List V} {us : List Value} {i : Nat} {x : V}, Vals xs us → xs[i]? = some x → ∃ u, us[i]? = some u ∧ RelV x u
  | _, _, _, _, .nil, e => by simp at e
  | _, _, 0, _, .cons r _, e => by simp at e; subst e; exact ⟨_, rfl, r⟩
  | _, _, i + 1, x, .cons _ t, e => by
    obtain ⟨u, h1, h2⟩ := Vals.get (i := i) (x := x) t (by simpa using e)
    exact ⟨u, by simpa using h1, h2⟩
theorem Vals.set {x : V} {u : Value} (r : RelV x u) : ∀ {xs : List V} {us : List Value} (i : Nat), Vals xs us → Vals (xs.set i x) (us.set i u)
  | _, _, _, .nil => .nil
  | _, _, 0, .cons _ t => .cons r t
  | _, _, i + 1, .cons q t => .cons q (Vals.set r i t)
theorem Vals.append : ∀ {xs ys : List V} {us ws : List Value}, Vals xs us → Vals ys ws → Vals (xs ++ ys) (us ++ ws)
  | _, _, _, _, .nil, s => s
  | _, _, _, _, .cons r t, s => .cons r (Vals.append t s)
theorem Vals.take : ∀ {xs : List V} {us : List Value} (n : Nat), Vals xs us → Vals (xs.take n) (us.take n)
  | _, _, 0, _ => .nil
  | _, _, _ + 1, .nil => .nil
  | _, _, n + 1, .cons r t => .cons r (Vals.take n t)
theorem Vals.drop : ∀ {xs : List V} {us : List Value} (n : Nat), Vals xs us → Vals (xs.drop n) (us.drop n)
  | _, _, 0, r => r
  | _, _, _ + 1, .nil => .nil
  | _, _, n + 1, .cons _ t => Vals.drop n t
noncomputable def RelO : Option V → Option Value → Prop
  | some v, some u => RelV v u
  | none, none => True
  | _, _ => False
def KV {κ : Type} : List (κ × V) → List (κ × Value) → Prop := Paired fun (p : κ × V) (q : κ × Value) => p.1 = q.1 ∧ RelV p.2 q.2

noncomputable def kV : Key → V
  | .inl i => .int i
  | .inr x => .str x

inductive HO where
  /-- a list -/
  | lst (xs : List V)
  /-- a tuple (never changes) -/
  | tup (xs : List V)
  /-- a dict whose keys are ints and texts; one whose keys are tuples of ints and texts (the empty one is both) -/
  | dK (kvs : List (Key × V)) | dT (kvs : List (List Key × V))
  /-- a set of ints: its members, its size -/
  | set (S : Int → Bool) (n : Nat)
  /-- an instance of the class at C, its dict at dx, its attributes -/
  | ins (C dx : Addr) (fs : List (Str × V))
  /-- the dict of the instance at x -/
  | own (x : Addr)
  /-- the dict of an exception -/
  | xd (fs : List (Str × V))
  /-- a bound method, f of x -/
  | met (f x : Addr)
  /-- a range object lo, lo + 1, .. below hi -/
  | rng (lo hi : Int)
  /-- a thing that is known to the object (the script; a dict while a loop walks it): read, never written while it is so -/
  | frz (o : Obj) (u : HO)
  /-- a code object's table -/
  | tbl (ps : Array Value)
  /-- any other thing, by what is true of its one object (a def of one's own: SetO a S n := HO.ext fun h => ..) -/
  | ext (φ : Heap → Prop)

abbrev Hp := Addr → Option HO
noncomputable def upd (H : Hp) (a : Addr) (o : HO) : Hp := fun b => if b = a then some o else H b
theorem upd_same {H : Hp} {a : Addr} {o : HO} : upd H a o a = some o := by unfold upd; rw [if_pos rfl]
theorem upd_ne {H : Hp} {a b : Addr} {o : HO} (h : b ≠ a) : upd H a o b = H b := by unfold upd; rw [if_neg h]
theorem ne_of_none {H : Hp} {a b : Addr} {o : HO} (h : H a = some o) (h' : H b = none) : a ≠ b := by
  intro e; subst e; rw [h] at h'; cases h'

section
variable (P : Program) (w : World)
noncomputable def ObjOk (H : Hp) (h : Heap) (a : Addr) : HO → Prop
  | .lst xs => xs.length ≤ sizeLine ∧ ∃ (its : List Value) (n : Nat), Vals xs its ∧ h.get? a = some { cls := .type "list", data := .seq its.toArray n }
  | .tup xs => xs.length ≤ sizeLine ∧ ∃ its : List Value, Vals xs its ∧ IsTup h a its.toArray
  | .dK kvs => kvs.length ≤ sizeLine ∧ (a == sysModules) = false ∧ ∃ vs, KV kvs vs ∧ h.DictOf (mixKind P w) a vs
  | .dT kvs => kvs.length ≤ sizeLine ∧ (a == sysModules) = false ∧ ∃ xs : List (List Key × Addr × Value),
      Paired (fun (p : List Key × V) (q : List Key × Addr × Value) => p.1 = q.1 ∧ H q.2.1 = some (.tup (p.1.map kV)) ∧ RelV p.2 q.2.2) kvs xs ∧
      ∃ o es ep, h.get? a = some o ∧ o.ExactDict ∧ o.data = .dict es ep ∧ es.toList = xs.map (entryOfKey (tupleKind (mixKind P w))) ∧ (xs.map (·.1)).Nodup
  | .set S n => h.SetOf (intKind P w) a S n
  | .ins C dx fs => H dx = some (.own a) ∧ fs.length ≤ 1000 ∧ dx ≠ a ∧ h.get? a = some (PySem.W.instObj C dx) ∧
      ∃ mA, h.Ns1 dx mA ∧ (∀ f, RelO (fs.lookup f) (mA f)) ∧ PySem.Within mA (fs.map (·.1))
  | .own _ => ∃ o, h.get? a = some o
  | .xd fs => ∃ mA, h.Ns1 a mA ∧ ∀ f, RelO (fs.lookup f) (mA f)
  | .rng lo hi => ∃ t u v, h.get? a = some { cls := .type "range", data := .fields #[.int lo t, .int hi u, .int 1 v] }
  | .frz o u => h.get? a = some o ∧ ObjOk H h a u
  | .tbl ps => h.get? a = some { cls := .none, data := .fields ps }
  | .met f x => h.get? a = some (PySem.W.methodObj (.ref f) (.ref x))
  | .ext φ => φ h ∧ (∃ o, h.get? a = some o) ∧ ∀ h1 h2 : Heap, φ h1 → (∀ o, h1.get? a = some o → h2.get? a = some o) → φ h2
def HOk (H : Hp) (h : Heap) : Prop := ∀ a o, H a = some o → ObjOk P w H h a o
end
section
variable {P : Program} {w : World} {H H' : Hp} {h h' : Heap} {a : Addr} {o : HO}
theorem ObjOk.lt (x : ObjOk P w H h a o) : a < h.objs.size := by
  cases o with
  | lst xs => obtain ⟨_, _, _, _, e⟩ := x; exact Heap.lt_size e
  | tup xs => obtain ⟨_, _, _, p⟩ := x; exact p.lt
  | dK kvs => obtain ⟨_, _, _, _, o, _, _, e, _⟩ := x; exact Heap.lt_size e
  | dT kvs => obtain ⟨_, _, _, _, o, _, _, e, _⟩ := x; exact Heap.lt_size e
  | set S n => obtain ⟨o, _, _, _, e, _⟩ := x; exact Heap.lt_size e
  | ins C dx fs => obtain ⟨_, _, _, e, _⟩ := x; exact Heap.lt_size e
  | own y => obtain ⟨_, e⟩ := x; exact Heap.lt_size e
  | xd fs => obtain ⟨_, ⟨_, _, _, e, _⟩, _⟩ := x; exact Heap.lt_size e
  | rng lo hi => obtain ⟨_, _, _, e⟩ := x; exact Heap.lt_size e
  | frz ob u => obtain ⟨e, _⟩ := x; exact Heap.lt_size e
  | tbl ps => exact Heap.lt_size (show h.get? a = some _ from x)
  | met f y => exact Heap.lt_size (show h.get? a = some _ from x)
  | ext φ => obtain ⟨_, ⟨_, e⟩, _⟩ := x; exact Heap.lt_size e
theorem Paired.mapP {α β : Type} {F G : α → β → Prop} : ∀ {l₁ : List α} {l₂ : List β}, Paired F l₁ l₂ → (∀ a b, F a b → G a b) → Paired G l₁ l₂
  | _, _, .nil, _ => .nil
  | _, _, .cons r t, f => .cons (f _ _ r) (Paired.mapP t f)
theorem ObjOk.stay (x : ObjOk P w H h a o) (k : ∀ b u, (b = a ∨ H b = some (.own a)) → h.get? b = some u → h'.get? b = some u)
    (ho : ∀ b, H b = some (.own a) → H' b = some (.own a)) (ht : ∀ b xs, H b = some (.tup xs) → H' b = some (.tup xs)) : ObjOk P w H' h' a o := by
  induction o with
  | lst xs => obtain ⟨z, its, n, r, e⟩ := x; exact ⟨z, its, n, r, k _ _ (.inl rfl) e⟩
  | tup xs => obtain ⟨z, its, r, ob, e, c⟩ := x; exact ⟨z, its, r, ob, k _ _ (.inl rfl) e, c⟩
  | dK kvs => obtain ⟨z, y, vs, r, ob, es, ep, e, c⟩ := x; exact ⟨z, y, vs, r, ob, es, ep, k _ _ (.inl rfl) e, c⟩
  | dT kvs =>
    obtain ⟨z, y, xs, r, ob, es, ep, e, c⟩ := x
    exact ⟨z, y, xs, Paired.mapP r fun p q z => ⟨z.1, ht _ _ z.2.1, z.2.2⟩, ob, es, ep, k _ _ (.inl rfl) e, c⟩
  | set S n => obtain ⟨ob, es, ep, t, e, c⟩ := x; exact ⟨ob, es, ep, t, k _ _ (.inl rfl) e, c⟩
  | ins C dx fs =>
    obtain ⟨d, z, ne, e, mA, ⟨od, es, ep, e2, c⟩, r⟩ := x
    exact ⟨ho _ d, z, ne, k _ _ (.inl rfl) e, mA, ⟨od, es, ep, k _ _ (.inr d) e2, c⟩, r⟩
  | own y => obtain ⟨ob, e⟩ := x; exact ⟨ob, k _ _ (.inl rfl) e⟩
  | xd fs => obtain ⟨mA, ⟨od, es, ep, e, c⟩, r⟩ := x; exact ⟨mA, ⟨od, es, ep, k _ _ (.inl rfl) e, c⟩, r⟩
  | rng lo hi => obtain ⟨t, u, v, e⟩ := x; exact ⟨t, u, v, k _ _ (.inl rfl) e⟩
  | frz ob u ih => obtain ⟨e, q⟩ := x; exact ⟨k _ _ (.inl rfl) e, ih q⟩
  | tbl ps =>
    have e : h.get? a = some { cls := .none, data := .fields ps } := x
    show h'.get? a = some { cls := .none, data := .fields ps }
    exact k a _ (.inl rfl) e
  | met f y =>
    have e : h.get? a = some (PySem.W.methodObj (.ref f) (.ref y)) := x
    show h'.get? a = some (PySem.W.methodObj (.ref f) (.ref y))
    exact k a _ (.inl rfl) e
  | ext φ => obtain ⟨p, ⟨o, e⟩, st⟩ := x; exact ⟨st _ _ p fun o q => k _ _ (.inl rfl) q, ⟨o, k _ _ (.inl rfl) e⟩, st⟩
theorem HOk.lt (x : HOk P w H h) (e : H a = some o) : a < h.objs.size := (x a o e).lt
theorem HOk.fresh (x : HOk P w H h) (e : h.objs.size ≤ a) : H a = none := by
  cases q : H a with
  | none => rfl
  | some u => exact absurd (Nat.lt_of_lt_of_le (x.lt q) e) (Nat.lt_irrefl _)
theorem HOk.kept (x : HOk P w H h) (k : ∀ b u, h.get? b = some u → h'.get? b = some u) : HOk P w H h' := fun a o e =>
  (x a o e).stay (fun b u _ q => k b u q) (fun _ q => q) fun _ _ q => q
theorem HOk.laid (x : HOk P w H h) (k : ∀ b u, h.get? b = some u → h'.get? b = some u) (hp : h.objs.size ≤ a) (new : ObjOk P w (upd H a o) h' a o) : HOk P w (upd H a o) h' := fun b u e => by
  have hn := x.fresh hp
  by_cases hb : b = a
  · subst hb; rw [upd_same] at e; cases e; exact new
  · rw [upd_ne hb] at e
    exact (x b u e).stay (fun c v _ q => k c v q) (fun c q => by rw [upd_ne (ne_of_none q hn)]; exact q) fun c xs q => by rw [upd_ne (ne_of_none q hn)]; exact q
end
def Rd (H : Hp) (a : Addr) (u : HO) : Prop := H a = some u ∨ ∃ o, H a = some (.frz o u)
theorem Rd.ok {P : Program} {w : World} {H : Hp} {h : Heap} {a : Addr} {u : HO} (r : Rd H a u) (x : HOk P w H h) : ObjOk P w H h a u := by
  rcases r with r | ⟨o, r⟩
  · exact x a u r
  · obtain ⟨_, q⟩ := x a _ r
    exact q
noncomputable def Mut : Option HO → Prop
  | some (.lst _) => True
  | some (.dK _) => True
  | some (.dT _) => True
  | some (.set _ _) => True
  | some (.ins _ _ _) => True
  | some (.ext _) => True
  | _ => False
section
variable {P : Program} {w : World} {H : Hp} {h h' : Heap} {x e : Addr} {o' : HO}
theorem HOk.write (ok : HOk P w H h) (mu : Mut (H x)) (he : e = x ∨ H e = some (.own x)) (k : ∀ b u, b ≠ e → h.get? b = some u → h'.get? b = some u) (heo : ∃ u, h'.get? e = some u)
    (new : ObjOk P w (upd H x o') h' x o') : HOk P w (upd H x o') h' := fun b u q => by
  have nown : ∀ c y, H c = some (.own y) → c ≠ x := fun c y r z => by subst z; rw [r] at mu; exact mu
  have ntup : ∀ c xs, H c = some (.tup xs) → c ≠ x := fun c xs r z => by subst z; rw [r] at mu; exact mu
  by_cases hb : b = x
  · subst hb; rw [upd_same] at q; cases q; exact new
  · rw [upd_ne hb] at q
    by_cases hbe : b = e
    · have q' : H b = some (.own x) := by
        rcases he with z | z
        · exact absurd (hbe.trans z) hb
        · rw [hbe]; exact z
      rw [q] at q'; cases q'
      obtain ⟨v, hv⟩ := heo
      exact ⟨v, by rw [hbe]; exact hv⟩
    · refine (ok b u q).stay (fun c v hc r => k c v ?_ r) (fun c r => by rw [upd_ne (nown c b r)]; exact r) fun c xs r => by rw [upd_ne (ntup c xs r)]; exact r
      rcases hc with rfl | hc
      · exact hbe
      · rintro rfl
        rcases he with z | z
        · exact nown c b hc z
        · rw [hc] at z; cases z; exact hb rfl
end
structure Un (fs ex : List Addr) (H H' : Hp) (h h' : Heap) : Prop where
  keep : ∀ b o, h.get? b = some o → H b = none → b ∉ fs → b ∉ ex → h'.get? b = some o
  slot : ∀ b o, h.get? b = some o → H b = none → b ∈ fs → b ∉ ex → ∃ sl, h'.get? b = some { o with slots := sl }
  free : ∀ b o, h.get? b = some o → H b = none → b ∉ ex → H' b = none
  there : ∀ b o, h.get? b = some o → b ∉ ex → ∃ o', h'.get? b = some o'
  tups : ∀ b xs, H b = some (.tup xs) → H' b = some (.tup xs)
  frzs : ∀ b o u, H b = some (.frz o u) → H' b = some (.frz o u)
  tbls : ∀ b ps, H b = some (.tbl ps) → ∃ more, H' b = some (.tbl (ps ++ more))
section
variable {fs fs' ex ex' : List Addr} {H H1 H2 : Hp} {h h1 h2 h' : Heap} {a x e : Addr} {o : HO}
theorem Un.any (u : Un fs ex H H1 h h1) {b : Addr} {ob : Obj} (q : h.get? b = some ob) (n : H b = none) (hx : b ∉ ex) : ∃ sl, h1.get? b = some { ob with slots := sl } := by
  by_cases hb : b ∈ fs
  · exact u.slot b ob q n hb hx
  · exact ⟨ob.slots, u.keep b ob q n hb hx⟩
theorem Un.trans (a : Un fs ex H H1 h h1) (b : Un fs ex H1 H2 h1 h2) : Un fs ex H H2 h h2 where
  keep := fun c ob q n hc hx => b.keep c ob (a.keep c ob q n hc hx) (a.free c ob q n hx) hc hx
  slot := fun c ob q n hc hx => by
    obtain ⟨sl, e1⟩ := a.slot c ob q n hc hx
    obtain ⟨sl', e2⟩ := b.slot c _ e1 (a.free c ob q n hx) hc hx
    exact ⟨sl', e2⟩
  free := fun c ob q n hx => by
    obtain ⟨o', e1⟩ := a.there c ob q hx
    exact b.free c o' e1 (a.free c ob q n hx) hx
  there := fun c ob q hx => by
    obtain ⟨o', e1⟩ := a.there c ob q hx
    exact b.there c o' e1 hx
  tups := fun c xs q => b.tups c xs (a.tups c xs q)
  frzs := fun c ob xs q => b.frzs c ob xs (a.frzs c ob xs q)
  tbls := fun c ps q => by
    obtain ⟨m1, e1⟩ := a.tbls c ps q
    obtain ⟨m2, e2⟩ := b.tbls c _ e1
    exact ⟨m1 ++ m2, by rw [e2, Array.append_assoc]⟩
theorem Un.kept (k : ∀ b u, h.get? b = some u → h'.get? b = some u) : Un fs ex H H h h' :=
  ⟨fun b ob q _ _ _ => k b ob q, fun b ob q _ _ _ => ⟨ob.slots, k b ob q⟩, fun _ _ _ n _ => n, fun b ob q _ => ⟨ob, k b ob q⟩, fun _ _ q => q, fun _ _ _ q => q, fun _ ps q => ⟨#[], by rw [q]; simp⟩⟩
theorem Un.refl : Un fs ex H H h h := Un.kept fun _ _ q => q
theorem Un.laid (k : ∀ b u, h.get? b = some u → h'.get? b = some u) (hp : h.objs.size ≤ a) (hn : H a = none) : Un fs ex H (upd H a o) h h' where
  keep := fun b u q _ _ _ => k b u q
  slot := fun b u q _ _ _ => ⟨u.slots, k b u q⟩
  free := fun b u q n _ => by rw [upd_ne (Nat.ne_of_lt (Nat.lt_of_lt_of_le (Heap.lt_size q) hp))]; exact n
  there := fun b u q _ => ⟨u, k b u q⟩
  tups := fun b xs q => by rw [upd_ne (ne_of_none q hn)]; exact q
  frzs := fun b u xs q => by rw [upd_ne (ne_of_none q hn)]; exact q
  tbls := fun b ps q => ⟨#[], by rw [upd_ne (ne_of_none q hn), q]; simp⟩
theorem Un.write (mu : Mut (H x)) (he : e = x ∨ H e = some (.own x)) (k : ∀ b u, b ≠ e → h.get? b = some u → h'.get? b = some u) (heo : ∃ u, h'.get? e = some u) : Un fs ex H (upd H x o) h h' := by
  have hx : ∀ b, H b = none → b ≠ x := fun b n z => by subst z; rw [n] at mu; exact mu
  have hb : ∀ b, H b = none → b ≠ e := fun b n z => by
    subst z
    rcases he with r | r
    · exact hx b n r
    · rw [n] at r; cases r
  have hm : ∀ b u, H b = some u → ¬ Mut (some u) → b ≠ x := fun b u q nm z => by subst z; rw [q] at mu; exact nm mu
  refine ⟨fun b u q n _ _ => k b u (hb b n) q, fun b u q n _ _ => ⟨u.slots, k b u (hb b n) q⟩, fun b u q n _ => by rw [upd_ne (hx b n)]; exact n, fun b u q _ => ?_,
    fun b xs q => by rw [upd_ne (hm b _ q fun z => z)]; exact q, fun b u xs q => by rw [upd_ne (hm b _ q fun z => z)]; exact q, fun b ps q => ⟨#[], by rw [upd_ne (hm b _ q fun z => z), q]; simp⟩⟩
  by_cases hbe : b = e
  · subst hbe; exact heo
  · exact ⟨u, k b u hbe q⟩
end
noncomputable def trk (h : Heap) (H : Hp) : List Addr := (List.range h.objs.size).filter fun a => (H a).isSome
noncomputable def hidT (h : Heap) (H : Hp) : Heap := PySem.W.hideAll h (trk h H)
theorem hidT_size (h : Heap) (H : Hp) : (hidT h H).objs.size = h.objs.size := PySem.W.hideAll_size _ _
theorem hidT_get {h : Heap} {H : Hp} {b : Addr} {o : Obj} (e : h.get? b = some o) (n : H b = none) : (hidT h H).get? b = some o :=
  PySem.W.hideAll_get _ e fun hm => by
    have q : (H b).isSome = true := (List.mem_filter.mp hm).2
    rw [n] at q; simp at q
theorem of_hidT {h : Heap} {H : Hp} {b : Addr} {o : Obj} (e : (hidT h H).get? b = some o) : h.get? b = some o ∧ H b = none := by
  have e' : h.get? b = some o := PySem.W.of_hideAll (trk h H) e
  refine ⟨e', ?_⟩
  cases q : H b with
  | none => rfl
  | some x =>
    have hm : b ∈ trk h H := List.mem_filter.mpr ⟨List.mem_range.mpr (Heap.lt_size e'), by simp [q]⟩
    have z : (hidT h H).get? b = none := PySem.W.hideAll_none (trk h H) hm
    rw [z] at e; cases e

end L2
namespace L2
open PySem PySem.Spec PyProof.Rows
structure Mod (K : PySem.W.Frag) (mg : Str → Option Value) (base : Heap) : Prop where
  kin : K.In base
  glob : base.Ns mainGlobals mg
  blt : ∃ mb, base.Ns builtinsNs mb ∧ ∀ x : Str, x ≠ "__name__" → mb x = bootBuiltins x
  nolimit : base.NoLimit

structure Cx where
  prog : Program
  w : World
  K : PySem.W.Frag
  mg : Str → Option Value
  base : Heap
  A : Around
  N : List Str
  s₀ : Shared
  H₀ : Hp
  env : Env
  outer : List Env
  stack : List Env
  ex : List Addr
  fn : Str → Bool
  calm : Bool
  pn : List (Addr × Obj)
  xe : Value → Shared → Prop
def frs (l : List Env) : List Addr := l.filterMap (·.frame)
abbrev Cx.fs (X : Cx) : List Addr := frs X.outer

def Vis (sc : Scope) (x : Str) : Prop := sc.names.lookup x = some .local ∨ sc.names.lookup x = some .cell ∨ sc.names.lookup x = some .free
def Loc (sc : Scope) (x : Str) : Prop := sc.names.lookup x = some .local ∨ sc.names.lookup x = some .cell
def Look (env : Env) (h : Heap) (m : Str → Option Value) (x : Str) (u : Value) : Prop :=
  (env.kindOf x = some .local ∧ m x = some u) ∨ ((env.kindOf x = some .cell ∨ env.kindOf x = some .free) ∧ ∃ c, env.cells.lookup x = some c ∧ h.IsCell c (some u))

structure Cx.Ok (X : Cx) : Prop where
  mod : Mod X.K X.mg X.base
  kind : X.env.scope.kind = .function
  glob : X.env.globals = mainGlobals
  blt : X.env.builtins = builtinsNs
  above : X.s₀.heap.objs.size ≤ X.env.locals
  inj : ∀ x y c, X.env.cells.lookup x = some c → X.env.cells.lookup y = some c → x = y
  has : ∀ x, (X.env.kindOf x = some .cell ∨ X.env.kindOf x = some .free) → ∃ c, X.env.cells.lookup x = some c
  cab : ∀ x c, X.fn x = true → X.env.cells.lookup x = some c → X.s₀.heap.objs.size ≤ c
  hd : X.calm = true → X.A.handled = none
  frames : X.A.frames = some X.stack
  stk : X.stack = X.outer ∨ (X.stack = X.env :: X.outer ∧ X.env.frame = some X.env.locals)
  exf : ∀ b ∈ X.ex, b ≠ X.env.locals ∧ ∀ x c, X.env.cells.lookup x = some c → c ≠ b
  bs : ∀ b o, X.base.get? b = some o → X.s₀.heap.get? b = some o ∧ X.H₀ b = none
  bsz : X.base.objs.size ≤ X.s₀.heap.objs.size
  noex : ∀ b o, X.base.get? b = some o → b ∉ X.ex
  exfs : ∀ b ∈ X.ex, b ∉ X.fs
  funs : X.s₀.heap.FunFrames X.base X.outer
  frf : ∀ b ∈ X.fs, X.H₀ b = none

structure Inv (X : Cx) (pins : List (Addr × Obj)) (σ : List (Option V)) (H : Hp) (s : Shared) : Prop where
  ok : X.Ok
  os : s.os = X.s₀.os
  bare : AllBare s.gens
  base : Un X.fs X.ex X.H₀ H X.s₀.heap s.heap
  loc : ∃ m, s.heap.Ns X.env.locals m ∧ ∀ (i : Nat) (x : Str) (v : V), X.N[i]? = some x → σ[i]? = some (some v) → Vis X.env.scope x → ∃ u, RelV v u ∧ Look X.env s.heap m x u
  cell : ∀ x c, X.env.cells.lookup x = some c → ∃ v, s.heap.IsCell c v
  free : H X.env.locals = none
  freeC : ∀ x c, X.env.cells.lookup x = some c → H c = none
  pin : ∀ p ∈ X.pn ++ pins, s.heap.get? p.1 = some p.2 ∧ H p.1 = none ∧ p.1 ≠ X.env.locals ∧ p.1 ∉ X.fs ∧ ∀ v, p.2.data ≠ .cell v
  hok : HOk X.prog X.w H s.heap
  len : σ.length = X.N.length

section
variable {X : Cx} {pins : List (Addr × Obj)} {σ : List (Option V)} {H H' : Hp} {s : Shared} {h' : Heap}
theorem Cx.Ok.nofr (ok : X.Ok) {b : Addr} {o : Obj} (e : X.base.get? b = some o) : b ∉ X.fs := fun hb => by
  have := (ok.funs.mem hb).1
  rw [e] at this; cases this
theorem Inv.bs (I : Inv X pins σ H s) : ∀ b o, X.base.get? b = some o → s.heap.get? b = some o ∧ H b = none := fun b o e =>
  ⟨I.base.keep b o (I.ok.bs b o e).1 (I.ok.bs b o e).2 (I.ok.nofr e) (I.ok.noex b o e), I.base.free b o (I.ok.bs b o e).1 (I.ok.bs b o e).2 (I.ok.noex b o e)⟩
theorem Inv.bk (I : Inv X pins σ H s) : ∀ b o, X.base.get? b = some o → s.heap.get? b = some o := fun b o e => (I.bs b o e).1
theorem Inv.mod (I : Inv X pins σ H s) : Mod X.K X.mg X.base := I.ok.mod
theorem Inv.kIn (I : Inv X pins σ H s) : X.K.In s.heap := I.ok.mod.kin.keeps I.bk
theorem Inv.lt (I : Inv X pins σ H s) : X.env.locals < s.heap.objs.size := let ⟨_, hn, _⟩ := I.loc; hn.lt
theorem Inv.sz (I : Inv X pins σ H s) : X.s₀.heap.objs.size ≤ s.heap.objs.size := Nat.le_trans I.ok.above (Nat.le_of_lt I.lt)
theorem Inv.nofs (I : Inv X pins σ H s) {a : Addr} (h : s.heap.objs.size ≤ a) : a ∉ X.fs := fun hb => by
  obtain ⟨_, o, ho, _⟩ := I.ok.funs.mem hb
  exact absurd (Nat.lt_of_lt_of_le (Heap.lt_size ho) (Nat.le_trans I.sz h)) (Nat.lt_irrefl _)
theorem Inv.cne (I : Inv X pins σ H s) : ∀ x c, X.env.cells.lookup x = some c → c ≠ X.env.locals := fun x c e z => by
  obtain ⟨v, o, ho, hd⟩ := I.cell x c e
  obtain ⟨m, ⟨o', es, ep, ho', hd', _⟩, _⟩ := I.loc
  rw [z, ho'] at ho; cases ho; rw [hd'] at hd; cases hd
theorem Inv.funs (I : Inv X pins σ H s) : s.heap.FunFrames X.base X.outer := by
  have all : ∀ (l : List Env), (∀ b ∈ frs l, b ∈ X.fs) → X.s₀.heap.FunFrames X.base l → s.heap.FunFrames X.base l := by
    intro l
    induction l with
    | nil => intro _ _; trivial
    | cons env r ih =>
      intro hs hl
      obtain ⟨hk, ⟨L, o, hf, hn, ho, hd⟩, hr⟩ := hl
      have hL : L ∈ X.fs := hs L (by unfold frs; rw [List.filterMap_cons, hf]; exact List.mem_cons_self)
      obtain ⟨sl, e⟩ := I.base.slot L o ho (I.ok.frf L hL) hL fun z => I.ok.exfs L z hL
      exact ⟨hk, ⟨L, _, hf, hn, e, hd⟩, ih (fun b hb => hs b (by unfold frs; rw [List.filterMap_cons, hf]; exact List.mem_cons_of_mem _ hb)) hr⟩
  exact all X.outer (fun _ hb => hb) I.ok.funs

theorem Inv.stack (I : Inv X pins σ H s) : s.heap.FunFrames X.base X.stack := by
  rcases I.ok.stk with e | ⟨e, hf⟩
  · rw [e]; exact I.funs
  · rw [e]
    obtain ⟨m, hn, _⟩ := I.loc
    refine .cons (by rw [I.ok.kind]; decide) hf hn ?_ I.funs
    exact Heap.get?_none_of_le (Nat.le_trans I.ok.bsz I.ok.above)
theorem Inv.stkSub (I : Inv X pins σ H s) : ∀ b ∈ frs X.stack, b ∈ X.env.locals :: X.fs := fun b hb => by
  rcases I.ok.stk with e | ⟨e, hf⟩
  · rw [e] at hb; exact List.mem_cons_of_mem _ hb
  · rw [e] at hb
    unfold frs at hb
    rw [List.filterMap_cons, hf] at hb
    exact hb
theorem Inv.stkFree (I : Inv X pins σ H s) : ∀ b ∈ frs X.stack, H b = none := fun b hb => by
  rcases List.mem_cons.mp (I.stkSub b hb) with e | hb
  · rw [e]; exact I.free
  · obtain ⟨_, o, ho, _⟩ := I.ok.funs.mem hb
    exact I.base.free b o ho (I.ok.frf b hb) fun z => I.ok.exfs b z hb

theorem Inv.step {g' : Array GenState} {t' : Nat} {d' : Drawn} {ch : List Addr} (I : Inv X pins σ H s)
    (hch : ∀ b ∈ ch, (b ∈ X.ex ∨ X.s₀.heap.objs.size ≤ b) ∧ b ≠ X.env.locals ∧ (∀ x c, X.env.cells.lookup x = some c → c ≠ b) ∧ ∀ p ∈ X.pn ++ pins, p.1 ≠ b)
    (keep : ∀ b o, b ≠ X.env.locals → b ∉ X.fs → b ∉ ch → s.heap.get? b = some o → H b = none → h'.get? b = some o)
    (slot : ∀ b o, b ≠ X.env.locals → b ∈ X.fs → b ∉ ch → s.heap.get? b = some o → H b = none → ∃ sl, h'.get? b = some { o with slots := sl }) (free : ∀ b o, b ∉ ch → s.heap.get? b = some o → H b = none → H' b = none)
    (there : ∀ b o, b ∉ ch → s.heap.get? b = some o → ∃ o', h'.get? b = some o')
    (tups : ∀ b xs, H b = some (.tup xs) → H' b = some (.tup xs)) (frzs : ∀ b o u, H b = some (.frz o u) → H' b = some (.frz o u)) (tbls : ∀ b ps, H b = some (.tbl ps) → ∃ more, H' b = some (.tbl (ps ++ more)))
    (ns : ∀ m, s.heap.Ns X.env.locals m → h'.Ns X.env.locals m) (hok : HOk X.prog X.w H' h') (hg : AllBare g') :
    Inv X pins σ H' { s with heap := h', gens := g', drawn := d', toks := t' } := by
  have neL : ∀ b o, X.s₀.heap.get? b = some o → b ≠ X.env.locals := fun b o e => Nat.ne_of_lt (Nat.lt_of_lt_of_le (Heap.lt_size e) I.ok.above)
  have neC : ∀ b o, X.s₀.heap.get? b = some o → b ∉ X.ex → b ∉ ch := fun b o e hx hb => by
    rcases (hch b hb).1 with z | z
    · exact hx z
    · exact absurd (Nat.lt_of_lt_of_le (Heap.lt_size e) z) (Nat.lt_irrefl _)
  have cellK : ∀ x c, X.env.cells.lookup x = some c → ∀ v, s.heap.IsCell c v → h'.IsCell c v := by
    rintro x c e v ⟨o, ho, hd⟩
    have nch : c ∉ ch := fun z => (hch c z).2.2.1 x c e rfl
    by_cases hc : c ∈ X.fs
    · obtain ⟨sl, q⟩ := slot c o (I.cne x c e) hc nch ho (I.freeC x c e)
      exact ⟨_, q, hd⟩
    · exact ⟨o, keep c o (I.cne x c e) hc nch ho (I.freeC x c e), hd⟩
  refine ⟨I.ok, I.os, hg, ⟨fun b o e n hb hx => ?_, fun b o e n hb hx => ?_, fun b o e n hx => ?_, fun b o e hx => ?_, fun b xs e => tups b xs (I.base.tups b xs e), fun b o xs e => frzs b o xs (I.base.frzs b o xs e), fun b ps e => ?_⟩, ?_, fun x c e => ?_, ?_, fun x c e => ?_, fun p hp => ?_, hok, I.len⟩
  · exact keep b o (neL b o e) hb (neC b o e hx) (I.base.keep b o e n hb hx) (I.base.free b o e n hx)
  · obtain ⟨sl, e1⟩ := I.base.slot b o e n hb hx
    obtain ⟨sl', e2⟩ := slot b _ (neL b o e) hb (neC b o e hx) e1 (I.base.free b o e n hx)
    exact ⟨sl', e2⟩
  · obtain ⟨o', e1⟩ := I.base.there b o e hx
    exact free b o' (neC b o e hx) e1 (I.base.free b o e n hx)
  · obtain ⟨o', e1⟩ := I.base.there b o e hx
    exact there b o' (neC b o e hx) e1
  · obtain ⟨m1, e1⟩ := I.base.tbls b ps e
    obtain ⟨m2, e2⟩ := tbls b _ e1
    exact ⟨m1 ++ m2, by rw [e2, Array.append_assoc]⟩
  · obtain ⟨m, hn, hl⟩ := I.loc
    refine ⟨m, ns m hn, fun i x v e1 e2 e3 => ?_⟩
    obtain ⟨u, r, l⟩ := hl i x v e1 e2 e3
    refine ⟨u, r, ?_⟩
    rcases l with l | ⟨k, c, e, z⟩
    · exact .inl l
    · exact .inr ⟨k, c, e, cellK x c e _ z⟩
  · obtain ⟨v, z⟩ := I.cell x c e
    exact ⟨v, cellK x c e v z⟩
  · obtain ⟨m, ⟨o, _, _, ho, _⟩, _⟩ := I.loc
    exact free _ o (fun z => (hch _ z).2.1 rfl) ho I.free
  · obtain ⟨v, o, ho, hd⟩ := I.cell x c e
    exact free c o (fun z => (hch c z).2.2.1 x c e rfl) ho (I.freeC x c e)
  · obtain ⟨e, n, ne, nf, d⟩ := I.pin p hp
    have nch : p.1 ∉ ch := fun z => (hch p.1 z).2.2.2 p hp rfl
    exact ⟨keep p.1 p.2 ne nf nch e n, free p.1 p.2 nch e n, ne, nf, d⟩
theorem Inv.un {t' : Nat} (I : Inv X pins σ H s) (u : Un X.fs [] H H' s.heap h') (hok : HOk X.prog X.w H' h') : Inv X pins σ H' { s with heap := h', toks := t' } := by
  obtain ⟨m, ⟨o, es, ep, ho, r⟩, _⟩ := id I.loc
  obtain ⟨sl, hL⟩ := u.any ho I.free (by simp)
  exact I.step (g' := s.gens) (d' := s.drawn) (ch := []) (fun _ z => nomatch z) (fun b o _ hb _ e n => u.keep b o e n hb (by simp)) (fun b o _ hb _ e n => u.slot b o e n hb (by simp)) (fun b o _ e n => u.free b o e n (by simp)) (fun b o _ e => u.there b o e (by simp)) u.tups u.frzs u.tbls (fun m' hm => by
    obtain ⟨o', es', ep', ho', r'⟩ := hm
    rw [ho] at ho'; cases ho'
    exact ⟨_, es', ep', hL, r'⟩) hok I.bare
theorem Inv.call {g' : Array GenState} {t' : Nat} {d' : Drawn} {ch : List Addr} (I : Inv X pins σ H s) (u : Un (frs X.stack) ch H H' s.heap h') (hok : HOk X.prog X.w H' h') (hg : AllBare g')
    (hch : ∀ b ∈ ch, (b ∈ X.ex ∨ X.s₀.heap.objs.size ≤ b) ∧ b ≠ X.env.locals ∧ (∀ x c, X.env.cells.lookup x = some c → c ≠ b) ∧ ∀ p ∈ X.pn ++ pins, p.1 ≠ b) :
    Inv X pins σ H' { s with heap := h', gens := g', drawn := d', toks := t' } := by
  obtain ⟨m, ⟨o, es, ep, ho, r⟩, _⟩ := id I.loc
  obtain ⟨sl, hL⟩ := u.any ho I.free fun z => (hch _ z).2.1 rfl
  exact I.step (ch := ch) hch (fun b o hL hb hc e n => u.keep b o e n (fun z => (List.mem_cons.mp (I.stkSub b z)).elim hL hb) hc) (fun b o _ _ hc e n => u.any e n hc) (fun b o hc e n => u.free b o e n hc) (fun b o hc e => u.there b o e hc) u.tups u.frzs u.tbls (fun m' hm => by
    obtain ⟨o', es', ep', ho', r'⟩ := hm
    rw [ho] at ho'; cases ho'
    exact ⟨_, es', ep', hL, r'⟩) hok hg
theorem Inv.turned {t' : Nat} {it : Addr} (I : Inv X pins σ H s) (k : ∀ b o, b ≠ it → s.heap.get? b = some o → h'.get? b = some o) (hn : H it = none) (hL : it ≠ X.env.locals)
    (h1 : it ∈ X.ex ∨ X.s₀.heap.objs.size ≤ it) (h2 : ∀ x c, X.env.cells.lookup x = some c → c ≠ it) (h3 : ∀ p ∈ X.pn ++ pins, p.1 ≠ it) : Inv X pins σ H { s with heap := h', toks := t' } := by
  have nit : ∀ b u, H b = some u → b ≠ it := fun b u e z => by rw [z, hn] at e; cases e
  refine I.step (g' := s.gens) (d' := s.drawn) (ch := [it]) (fun b hb => ?_) (fun b o _ _ hc e _ => k b o (fun z => hc (by simp [z])) e) (fun b o _ _ hc e _ => ⟨o.slots, k b o (fun z => hc (by simp [z])) e⟩) (fun _ _ _ _ n => n)
    (fun b o hc e => ⟨o, k b o (fun z => hc (by simp [z])) e⟩) (fun _ _ e => e) (fun _ _ _ e => e) (fun b ps e => ⟨#[], by rw [e]; simp⟩) (fun m hm => ?_) (fun b u e => ?_) I.bare
  · have e : b = it := by simpa using hb
    subst e
    exact ⟨h1, hL, h2, h3⟩
  · obtain ⟨o, es, ep, ho, r⟩ := hm
    exact ⟨o, es, ep, k _ o (Ne.symm hL) ho, r⟩
  · refine (I.hok b u e).stay (fun c v hc q => k c v ?_ q) (fun _ q => q) fun _ _ q => q
    rcases hc with z | z
    · rw [z]; exact nit b u e
    · exact nit c _ z
theorem Inv.tok (I : Inv X pins σ H s) (t : Nat) : Inv X pins σ H { s with toks := t } := I.un (h' := s.heap) (t' := t) Un.refl I.hok
theorem Inv.kept {t' : Nat} (I : Inv X pins σ H s) (k : ∀ b u, s.heap.get? b = some u → h'.get? b = some u) : Inv X pins σ H { s with heap := h', toks := t' } := I.un (Un.kept k) (I.hok.kept k)
theorem Inv.laid {a : Addr} {o : HO} {t' : Nat} (I : Inv X pins σ H s) (k : ∀ b u, s.heap.get? b = some u → h'.get? b = some u) (hp : s.heap.objs.size ≤ a) (new : ObjOk X.prog X.w (upd H a o) h' a o) :
    Inv X pins σ (upd H a o) { s with heap := h', toks := t' } := I.un (Un.laid k hp (I.hok.fresh hp)) (I.hok.laid k hp new)
theorem Inv.write {x e : Addr} {o : HO} {t' : Nat} (I : Inv X pins σ H s) (mu : Mut (H x)) (he : e = x ∨ H e = some (.own x)) (k : ∀ b u, b ≠ e → s.heap.get? b = some u → h'.get? b = some u) (heo : ∃ u, h'.get? e = some u)
    (new : ObjOk X.prog X.w (upd H x o) h' x o) : Inv X pins σ (upd H x o) { s with heap := h', toks := t' } := I.un (Un.write mu he k heo) (I.hok.write mu he k heo new)
theorem Inv.weak {σ' : List (Option V)} (I : Inv X pins σ H s) (hl : σ'.length = σ.length) (w : ∀ (i : Nat) v, σ'[i]? = some (some v) → σ[i]? = some (some v)) : Inv X pins σ' H s :=
  ⟨I.ok, I.os, I.bare, I.base, let ⟨m, hn, hl'⟩ := I.loc; ⟨m, hn, fun i x v e1 e2 e3 => hl' i x v e1 (w i v e2) e3⟩, I.cell, I.free, I.freeC, I.pin, I.hok, hl.trans I.len⟩
theorem Inv.pins_of {pins' : List (Addr × Obj)} (I : Inv X pins σ H s) (h : ∀ p ∈ pins', s.heap.get? p.1 = some p.2 ∧ H p.1 = none ∧ p.1 ≠ X.env.locals ∧ p.1 ∉ X.fs ∧ ∀ v, p.2.data ≠ .cell v) : Inv X pins' σ H s :=
  ⟨I.ok, I.os, I.bare, I.base, I.loc, I.cell, I.free, I.freeC, fun p hp => (List.mem_append.mp hp).elim (fun z => I.pin p (List.mem_append_left _ z)) (h p), I.hok, I.len⟩

theorem nodup_ix {N : List Str} (hN : N.Nodup) {i j : Nat} {x : Str} (a : N[i]? = some x) (b : N[j]? = some x) : i = j := by
  obtain ⟨h1, e1⟩ := List.getElem?_eq_some_iff.mp a
  obtain ⟨h2, e2⟩ := List.getElem?_eq_some_iff.mp b
  exact (List.getElem_inj hN).mp (e1.trans e2.symm)

theorem store_ok2 {M : Model} {A : Around} {E : Value → Shared → Prop} {i : Nat} {x : Str} {v : V} {u : Value} {Q : Unit → Shared → Prop} (I : Inv X pins σ H s) (hN : X.N.Nodup) (hi : X.N[i]? = some x) (hx : Loc X.env.scope x) (r : RelV v u)
    (h : ∀ s', Inv X pins (σ.set i (some v)) H s' → (∃ a, Heap.SameBut a s.heap s'.heap ∧ (a = X.env.locals ∨ X.env.cells.lookup x = some a)) → Q () s') (hf : X.fn x = true ∨ X.env.scope.names.lookup x = some .local := by first | exact .inl rfl | exact .inr rfl | assumption) : wpAny M A (storeName X.env x u) Q E s := by
  obtain ⟨m, hn, hl⟩ := id I.loc
  have hcls : (X.env.scope.kind == .class || (X.env.scope.kind == .module && X.env.locals != X.env.globals)) = false := by rw [I.ok.kind]; rfl
  have hiσ : i < σ.length := by rw [I.len]; exact (List.getElem?_eq_some_iff.mp hi).1
  have cne := I.cne
  have tracked : ∀ {a : Addr} {h' : Heap}, (∃ o, s.heap.get? a = some o ∧ H a = none) → Heap.SameBut a s.heap h' → HOk X.prog X.w H h' := fun {a h'} ha hs b ob e => by
    obtain ⟨_, _, hfree⟩ := ha
    refine (I.hok b ob e).stay (fun c w' hc q => (hs.2 c ?_).trans q) (fun _ q => q) fun _ _ q => q
    rintro rfl
    rcases hc with rfl | hc
    · rw [hfree] at e; cases e
    · rw [hfree] at hc; cases hc
  rcases hx with hk | hk
  · refine wpAny_storeName_local hk hn (fun h' hn' hs => ?_) hcls
    obtain ⟨oL, _, _, hoL, _⟩ := id hn
    refine h _ ⟨I.ok, I.os, I.bare, ⟨fun b o e n hb hx => ?_, fun b o e n hb hx => ?_, I.base.free, fun b o e hx => ?_, I.base.tups, I.base.frzs, I.base.tbls⟩, ⟨_, hn', fun j y v' e1 e2 e3 => ?_⟩, fun y c e => ?_, I.free, I.freeC, fun p hp => ?_, tracked ⟨oL, hoL, I.free⟩ hs, by simpa using I.len⟩ ⟨_, hs, .inl rfl⟩
    · exact (hs.2 b (Nat.ne_of_lt (Nat.lt_of_lt_of_le (Heap.lt_size e) I.ok.above))).trans (I.base.keep b o e n hb hx)
    · obtain ⟨sl, e1⟩ := I.base.slot b o e n hb hx
      exact ⟨sl, (hs.2 b (Nat.ne_of_lt (Nat.lt_of_lt_of_le (Heap.lt_size e) I.ok.above))).trans e1⟩
    · obtain ⟨o', e1⟩ := I.base.there b o e hx
      exact ⟨o', (hs.2 b (Nat.ne_of_lt (Nat.lt_of_lt_of_le (Heap.lt_size e) I.ok.above))).trans e1⟩
    · by_cases hj : j = i
      · subst hj
        rw [hi] at e1; cases e1
        rw [List.getElem?_set_self hiσ] at e2
        cases e2
        exact ⟨u, r, .inl ⟨hk, by simp⟩⟩
      · rw [List.getElem?_set_ne (Ne.symm hj)] at e2
        obtain ⟨u', r', q⟩ := hl j y v' e1 e2 e3
        refine ⟨u', r', ?_⟩
        rcases q with ⟨k, e⟩ | ⟨k, c, e, z⟩
        · refine .inl ⟨k, ?_⟩
          have : y ≠ x := fun e => hj (nodup_ix hN e1 (e ▸ hi))
          simp [this, e]
        · exact .inr ⟨k, c, e, z.sameBut hs (cne y c e)⟩
    · obtain ⟨w', z⟩ := I.cell y c e
      exact ⟨w', z.sameBut hs (cne y c e)⟩
    · obtain ⟨e, n, ne, nf, d⟩ := I.pin p hp
      exact ⟨(hs.2 p.1 ne).trans e, n, ne, nf, d⟩
  · have hfn : X.fn x = true := by
      rcases hf with z | z
      · exact z
      · rw [z] at hk; cases hk
    obtain ⟨c, hc⟩ := I.ok.has x (.inl hk)
    obtain ⟨w', z⟩ := I.cell x c hc
    refine wpAny_storeName_cell I.ok.kind hk hc z (fun h' hc' hs => ?_)
    obtain ⟨oc, hoc, hocd⟩ := id z
    refine h { s with heap := h' } ⟨I.ok, I.os, I.bare, ⟨fun b o e n hb hx => ?_, fun b o e n hb hx => ?_, I.base.free, fun b o e hx => ?_, I.base.tups, I.base.frzs, I.base.tbls⟩, ⟨m, hn.sameBut hs (Ne.symm (cne x c hc)), fun j y v' e1 e2 e3 => ?_⟩, fun y c' e => ?_, I.free, I.freeC, fun p hp => ?_, tracked ⟨oc, hoc, I.freeC x c hc⟩ hs, by simpa using I.len⟩ ⟨c, hs, .inr hc⟩
    · exact (hs.2 b (Nat.ne_of_lt (Nat.lt_of_lt_of_le (Heap.lt_size e) (I.ok.cab x c hfn hc)))).trans (I.base.keep b o e n hb hx)
    · obtain ⟨sl, e1⟩ := I.base.slot b o e n hb hx
      exact ⟨sl, (hs.2 b (Nat.ne_of_lt (Nat.lt_of_lt_of_le (Heap.lt_size e) (I.ok.cab x c hfn hc)))).trans e1⟩
    · obtain ⟨o', e1⟩ := I.base.there b o e hx
      exact ⟨o', (hs.2 b (Nat.ne_of_lt (Nat.lt_of_lt_of_le (Heap.lt_size e) (I.ok.cab x c hfn hc)))).trans e1⟩
    · by_cases hj : j = i
      · subst hj
        rw [hi] at e1; cases e1
        rw [List.getElem?_set_self hiσ] at e2
        cases e2
        exact ⟨u, r, .inr ⟨.inl hk, c, hc, hc'⟩⟩
      · rw [List.getElem?_set_ne (Ne.symm hj)] at e2
        obtain ⟨u', r', q⟩ := hl j y v' e1 e2 e3
        refine ⟨u', r', ?_⟩
        rcases q with q | ⟨k, c', e, z'⟩
        · exact .inl q
        · refine .inr ⟨k, c', e, z'.sameBut hs ?_⟩
          rintro rfl
          exact hj (nodup_ix hN e1 (I.ok.inj _ _ _ e hc ▸ hi))
    · by_cases hcc : c' = c
      · subst hcc; exact ⟨_, hc'⟩
      · obtain ⟨w2, z2⟩ := I.cell y c' e
        exact ⟨w2, z2.sameBut hs hcc⟩
    · obtain ⟨e, n, ne, nf, d⟩ := I.pin p hp
      refine ⟨(hs.2 p.1 ?_).trans e, n, ne, nf, d⟩
      intro q
      rw [q, hoc] at e
      have q' : oc = p.2 := Option.some.inj e
      exact d w' (by rw [← q']; exact hocd)
theorem store_ok {M : Model} {A : Around} {E : Value → Shared → Prop} {i : Nat} {x : Str} {v : V} {u : Value} {Q : Unit → Shared → Prop} (I : Inv X pins σ H s) (hN : X.N.Nodup) (hi : X.N[i]? = some x) (hx : Loc X.env.scope x) (r : RelV v u)
    (h : ∀ s', Inv X pins (σ.set i (some v)) H s' → Q () s') (hf : X.fn x = true ∨ X.env.scope.names.lookup x = some .local := by first | exact .inl rfl | exact .inr rfl | assumption) : wpAny M A (storeName X.env x u) Q E s :=
  store_ok2 I hN hi hx r (fun s' I' _ => h s' I') hf
theorem Inv.call' {s' : Shared} {ch : List Addr} (I : Inv X pins σ H s) (ho : s'.os = s.os) (u : Un (frs X.stack) ch H H' s.heap s'.heap) (hok : HOk X.prog X.w H' s'.heap) (hg : AllBare s'.gens)
    (hch : ∀ b ∈ ch, (b ∈ X.ex ∨ X.s₀.heap.objs.size ≤ b) ∧ b ≠ X.env.locals ∧ (∀ x c, X.env.cells.lookup x = some c → c ≠ b) ∧ ∀ p ∈ X.pn ++ pins, p.1 ≠ b) : Inv X pins σ H' s' := by
  obtain ⟨h', g', d', t', o'⟩ := s'
  have e : o' = s.os := ho
  subst e
  exact I.call (g' := g') (t' := t') (d' := d') u hok hg hch
end
abbrev XK := Value → Option Addr → Hp → Prop
abbrev St := List (Option V)
abbrev VK := V → Hp → Prop
abbrev TE := St → Hp → VK → Prop
abbrev TT := St → Hp → (Bool → Hp → Prop) → Prop
abbrev TA := St → Hp → (List V → Hp → Prop) → Prop
structure Ends where
  nx : St → Hp → Prop
  rt : VK
  bk : St → Hp → Prop := fun _ _ => False
  ct : St → Hp → Prop := fun _ _ => False
abbrev TS := Ends → St → Hp → Prop

def EP (X : Cx) (pins : List (Addr × Obj)) (σ : St) (Q : VK) (u : Value) (s' : Shared) : Prop := ∃ v H', Inv X pins σ H' s' ∧ RelV v u ∧ Q v H'
def TP (X : Cx) (pins : List (Addr × Obj)) (σ : St) (Q : Bool → Hp → Prop) (b : Bool) (s' : Shared) : Prop := ∃ H', Inv X pins σ H' s' ∧ Q b H'
def AP (X : Cx) (pins : List (Addr × Obj)) (σ : St) (Q : List V → Hp → Prop) (us : List Value) (s' : Shared) : Prop := ∃ vs H', Inv X pins σ H' s' ∧ Vals vs us ∧ Q vs H'
def SP (X : Cx) (pins : List (Addr × Obj)) (D : Ends) (f : Flow) (s' : Shared) : Prop :=
  match f with
  | .next => ∃ σ' H', Inv X pins σ' H' s' ∧ D.nx σ' H'
  | .brk => ∃ σ' H', Inv X pins σ' H' s' ∧ D.bk σ' H'
  | .cont => ∃ σ' H', Inv X pins σ' H' s' ∧ D.ct σ' H'
  | .ret u => ∃ v σ' H', Inv X pins σ' H' s' ∧ RelV v u ∧ D.rt v H'

def PE (X : Cx) (e : Expr) (t : TE) : Prop :=
  ∀ (pins : List (Addr × Obj)) (s : Shared) (σ : St) (H : Hp) (Q : VK), Inv X pins σ H s → t σ H Q → wpAny (model X.prog X.w) X.A (eval e X.env) (EP X pins σ Q) X.xe s
def PT (X : Cx) (e : Expr) (t : TT) : Prop :=
  ∀ (pins : List (Addr × Obj)) (s : Shared) (σ : St) (H : Hp) (Q : Bool → Hp → Prop), Inv X pins σ H s → t σ H Q → wpAny (model X.prog X.w) X.A (isTrue e X.env (eval e X.env)) (TP X pins σ Q) X.xe s
def PW (X : Cx) (e : Expr) (t : TT) : Prop :=
  ∀ (whole : Sem Value) (pins : List (Addr × Obj)) (s : Shared) (σ : St) (H : Hp) (Q : Bool → Hp → Prop), Inv X pins σ H s → t σ H Q → wpAny (model X.prog X.w) X.A (isTrue e X.env whole) (TP X pins σ Q) X.xe s
theorem PW.pt {X : Cx} {e : Expr} {t : TT} (h : PW X e t) : PT X e t := h _
def PA (X : Cx) (es : List Expr) (t : TA) : Prop :=
  ∀ (pos : Pos) (pins : List (Addr × Obj)) (s : Shared) (σ : St) (H : Hp) (Q : List V → Hp → Prop), Inv X pins σ H s → t σ H Q → wpAny (model X.prog X.w) X.A (spliced (backTo pos (starEach es X.env))) (AP X pins σ Q) X.xe s
def PS (X : Cx) (st : Stmt) (t : TS) : Prop :=
  ∀ (pins : List (Addr × Obj)) (s : Shared) (σ : St) (H : Hp) (D : Ends), Inv X pins σ H s → t D σ H → wpAny (model X.prog X.w) X.A (exec st X.env) (SP X pins D) X.xe s
def PSs (X : Cx) (st : List Stmt) (t : TS) : Prop :=
  ∀ (pins : List (Addr × Obj)) (s : Shared) (σ : St) (H : Hp) (D : Ends), Inv X pins σ H s → t D σ H → wpAny (model X.prog X.w) X.A (execs st X.env) (SP X pins D) X.xe s
theorem thn {α : Type} {t : Sem α} {Q Q' : α → Shared → Prop} {M : Model} {A : Around} {E : Value → Shared → Prop} {s : Shared} (h : wpAny M A t Q E s) (hQ : ∀ a s, Q a s → Q' a s) : wpAny M A t Q' E s := wpAny_mono h hQ fun _ _ x => x
end L2
namespace L2
open PySem PySem.Spec PyProof.Rows
section
variable {X : Cx}
def tVar (i : Nat) : TE := fun σ H Q => ∃ v, σ[i]? = some (some v) ∧ Q v H
def tC (v : V) : TE := fun _ H Q => Q v H
theorem pe_var {i : Nat} {x : Str} {pos : Pos} (hN : X.N[i]? = some x) (hv : Vis X.env.scope x) (hd : (x == ("__debug__" : Str)) = false := by decide) (hcd : (x == ("__classdict__" : Str)) = false := by decide) : PE X (.Name x pos) (tVar i) := by
  intro pins s σ H Q I h
  obtain ⟨v, e, h⟩ := h
  obtain ⟨m, hn, hl⟩ := I.loc
  obtain ⟨u, r, l⟩ := hl i x v hN e hv
  have fin : EP X pins σ Q u s := ⟨v, H, I, r, h⟩
  rcases l with ⟨hk, hm⟩ | ⟨hk, c, hc, hcell⟩
  · exact wpAny_Name (wpAny_loadName_local I.ok.kind hk hn hm fin) hd
  · rcases hk with hk | hk
    · exact wpAny_Name (wpAny_loadName_cell I.ok.kind hk hc hcell fin) hd
    · exact wpAny_Name (wpAny_loadName_free I.ok.kind hk hc hcell fin hcd) hd
theorem pe_int {i j pos} : PE X (.Constant (.int i) j pos) (tC (.int i)) := fun _ _ _ H _ I h => wpAny_Constant_int ⟨.int i, H, I.tok _, ⟨_, rfl⟩, h⟩
theorem pe_bl {b j pos} : PE X (.Constant (.bool b) j pos) (tC (.bl b)) := fun _ _ _ H _ I h => Constant_bool ⟨.bl b, H, I, rfl, h⟩
theorem pe_non {j pos} : PE X (.Constant .none j pos) (tC .non) := fun _ _ _ H _ I h => Constant_none ⟨.non, H, I, rfl, h⟩
theorem pe_str {x j pos} : PE X (.Constant (.str x) j pos) (tC (.str x)) := fun _ _ _ H _ I h => Calls.Constant_str ⟨.str x, H, I.tok _, ⟨_, rfl⟩, h⟩

def Gl (X : Cx) (x : Str) : Prop := X.env.kindOf x = some .globalImplicit
theorem ld_glob {E : Value → Shared → Prop} {pins : List (Addr × Obj)} {s : Shared} {σ : St} {H : Hp} {x : Str} {u : Value} {pos : Pos} {Q : Value → Shared → Prop} (I : Inv X pins σ H s) (hg : Gl X x) (hm : X.mg x = some u) (h : Q u s)
    (hd : (x == ("__debug__" : Str)) = false := by decide) : wpAny (model X.prog X.w) X.A (eval (.Name x pos) X.env) Q E s :=
  Calls.Name_function_global I.ok.kind hg (Calls.loadGlobal_global (by rw [I.ok.glob]; exact I.mod.glob.keeps I.bk) hm h) hd
theorem ld_blt {E : Value → Shared → Prop} {pins : List (Addr × Obj)} {s : Shared} {σ : St} {H : Hp} {x : Str} {u : Value} {pos : Pos} {Q : Value → Shared → Prop} (I : Inv X pins σ H s) (hg : Gl X x) (hm : X.mg x = none) (hv : bootBuiltins x = some u) (h : Q u s)
    (hn : x ≠ "__name__" := by decide) (hd : (x == ("__debug__" : Str)) = false := by decide) : wpAny (model X.prog X.w) X.A (eval (.Name x pos) X.env) Q E s := by
  obtain ⟨mb, h1, h2⟩ := I.mod.blt
  exact Calls.Name_function_global I.ok.kind hg (Calls.loadGlobal_builtin (by rw [I.ok.glob]; exact I.mod.glob.keeps I.bk) hm (by rw [I.ok.blt]; exact h1.keeps I.bk) ((h2 x hn).trans hv) h) hd
theorem pe_glob {x : Str} {v : V} {u : Value} {pos : Pos} (hg : Gl X x) (hm : X.mg x = some u) (r : RelV v u) (hd : (x == ("__debug__" : Str)) = false := by decide) : PE X (.Name x pos) (tC v) :=
  fun _ _ _ H _ I h => ld_glob I hg hm ⟨v, H, I, r, h⟩ hd
theorem pe_bltn {x : Str} {v : V} {u : Value} {pos : Pos} (hg : Gl X x) (hm : X.mg x = none) (hv : bootBuiltins x = some u) (r : RelV v u) (hn : x ≠ "__name__" := by decide) (hd : (x == ("__debug__" : Str)) = false := by decide) : PE X (.Name x pos) (tC v) :=
  fun _ _ _ H _ I h => ld_blt I hg hm hv ⟨v, H, I, r, h⟩ hn hd

variable {a b : Expr} {ta tb : TE} {pos : Pos}
noncomputable def tB (t : TE) : TT := fun σ H Q => t σ H fun x H1 => ∃ c, x = .bl c ∧ Q c H1
theorem pt_val {e : Expr} {t : TE} (h : PE X e t) (he : ∀ whole, isTrue e X.env whole = (do let v ← whole; standAt e.pos; holding [v] (truthy v)) := by intro _; rfl) : PT X e (tB t) := by
  intro pins s σ H Q I hw
  refine isTrue_plain (thn (h pins s σ H _ I hw) fun v s1 ⟨x, H1, I1, r1, q1⟩ => ?_) (he _)
  obtain ⟨d, rfl, q⟩ := q1
  cases r1
  exact wpAny_truthy_bool ⟨H1, I1, q⟩

variable {tA tB' : TT} {rest : List Expr}
noncomputable def tAnd (t u : TT) : TT := fun σ H Q => t σ H fun c H1 => if c = true then u σ H1 Q else Q false H1
noncomputable def tOr (t u : TT) : TT := fun σ H Q => t σ H fun c H1 => if c = true then Q true H1 else u σ H1 Q
noncomputable def tNot (t : TT) : TT := fun σ H Q => t σ H fun c H1 => Q (!c) H1
theorem pw_and1 (ha : PT X a tA) : PW X (.BoolOp .And [a] pos) tA := by
  intro wh pins s σ H Q I h
  refine isTrue_and (thn (ha pins s σ H Q I h) fun c s1 e => ?_)
  cases c with
  | true => exact isTrue_and_nil e
  | false => exact e
theorem pw_or1 (ha : PT X a tA) : PW X (.BoolOp .Or [a] pos) tA := by
  intro wh pins s σ H Q I h
  refine isTrue_or (thn (ha pins s σ H Q I h) fun c s1 e => ?_)
  cases c with
  | false => exact isTrue_or_nil e
  | true => exact e
theorem pw_and (ha : PT X a tA) (hb : PW X (.BoolOp .And (b :: rest) pos) tB') : PW X (.BoolOp .And (a :: b :: rest) pos) (tAnd tA tB') := by
  intro wh pins s σ H Q I h
  refine isTrue_and (thn (ha pins s σ H _ I h) ?_)
  rintro c s1 ⟨H1, I1, q1⟩
  cases c with
  | true => exact hb wh pins s1 σ H1 Q I1 q1
  | false => exact ⟨H1, I1, q1⟩
theorem pw_or (ha : PT X a tA) (hb : PW X (.BoolOp .Or (b :: rest) pos) tB') : PW X (.BoolOp .Or (a :: b :: rest) pos) (tOr tA tB') := by
  intro wh pins s σ H Q I h
  refine isTrue_or (thn (ha pins s σ H _ I h) ?_)
  rintro c s1 ⟨H1, I1, q1⟩
  cases c with
  | true => exact ⟨H1, I1, q1⟩
  | false => exact hb wh pins s1 σ H1 Q I1 q1
theorem pt_not (ha : PT X a tA) : PT X (.UnaryOp .Not a pos) (tNot tA) := by
  intro pins s σ H Q I h
  exact isTrue_not (ha pins s σ H (fun c H1 => Q (!c) H1) I h)
def tAndV (ta tb : TE) : TE := fun σ H Q => ta σ H fun x H1 => ∃ c, x = .bl c ∧ if c = true then tb σ H1 Q else Q (.bl false) H1
def tOrV (ta tb : TE) : TE := fun σ H Q => ta σ H fun x H1 => ∃ c, x = .bl c ∧ if c = true then Q (.bl true) H1 else tb σ H1 Q
def tNotV (ta : TE) : TE := fun σ H Q => ta σ H fun x H1 => ∃ c, x = .bl c ∧ Q (.bl (!c)) H1
theorem pe_one {op} {t : TE} (h : PE X a t) : PE X (.BoolOp op [a] pos) t := fun pins s σ H Q I hw => BoolOp_one (h pins s σ H Q I hw)
theorem pe_and (ha : PE X a ta) (hb : PE X (.BoolOp .And (b :: rest) pos) tb) : PE X (.BoolOp .And (a :: b :: rest) pos) (tAndV ta tb) := by
  intro pins s σ H Q I h
  refine BoolOp_and (thn (ha pins s σ H _ I h) ?_)
  rintro v s1 ⟨x, H1, I1, r1, q1⟩
  obtain ⟨c, rfl, q1⟩ := q1
  cases r1
  refine wpAny_truthy_bool ?_
  cases c with
  | true => exact hb pins s1 σ H1 Q I1 q1
  | false => exact ⟨.bl false, H1, I1, rfl, q1⟩
theorem pe_or (ha : PE X a ta) (hb : PE X (.BoolOp .Or (b :: rest) pos) tb) : PE X (.BoolOp .Or (a :: b :: rest) pos) (tOrV ta tb) := by
  intro pins s σ H Q I h
  refine BoolOp_or (thn (ha pins s σ H _ I h) ?_)
  rintro v s1 ⟨x, H1, I1, r1, q1⟩
  obtain ⟨c, rfl, q1⟩ := q1
  cases r1
  refine wpAny_truthy_bool ?_
  cases c with
  | false => exact hb pins s1 σ H1 Q I1 q1
  | true => exact ⟨.bl true, H1, I1, rfl, q1⟩
theorem pe_not (ha : PE X a ta) : PE X (.UnaryOp .Not a pos) (tNotV ta) := by
  intro pins s σ H Q I h
  refine UnaryOp_ (thn (ha pins s σ H _ I h) ?_)
  rintro v s1 ⟨x, H1, I1, r1, q1⟩
  obtain ⟨c, rfl, q1⟩ := q1
  cases r1
  exact not_of (wpAny_truthy_bool ⟨.bl (!c), H1, I1, rfl, q1⟩)
end
end L2
namespace L2
open PySem PySem.Spec PyProof.Rows
def SqL (K : PySem.W.Frag) (H : Hp) (a : Addr) (xs : List V) : Prop :=
  Rd H a (.lst xs) ∨
    ∃ (o : Obj) (its : Array Value) (n : Nat), K.lookup a = some o ∧ o.cls = .type "list" ∧ o.dict = none ∧ o.data = .seq its n ∧ its.size ≤ sizeLine ∧ Vals xs its.toList
def SqT (K : PySem.W.Frag) (H : Hp) (a : Addr) (xs : List V) : Prop :=
  Rd H a (.tup xs) ∨
    ∃ (o : Obj) (its : Array Value) (n : Nat), K.lookup a = some o ∧ o.cls = .type "tuple" ∧ o.data = .seq its n ∧ its.size ≤ sizeLine ∧ Vals xs its.toList
noncomputable def absV : Value → Option V
  | .none => some .non
  | .bool b => some (.bl b)
  | .int i _ => some (.int i)
  | .str x _ => some (.str x)
  | .bytes b _ => some (.byt b)
  | .float b _ => some (.flt b)
  | .ref a => some (.ref a)
  | .type n => some (.ty n)
  | _ => none
theorem RelV.abs {x : V} {u : Value} (r : RelV x u) : absV u = some x := by
  cases x with
  | non => cases r; rfl
  | bl _ => cases r; rfl
  | int _ => obtain ⟨t, rfl⟩ := r; rfl
  | str _ => obtain ⟨t, rfl⟩ := r; rfl
  | byt _ => obtain ⟨t, rfl⟩ := r; rfl
  | flt _ => obtain ⟨t, rfl⟩ := r; rfl
  | ref _ => cases r; rfl
  | ty _ => cases r; rfl
theorem RelV.inj {x y : V} {u : Value} (r : RelV x u) (q : RelV y u) : x = y := Option.some.inj (r.abs.symm.trans q.abs)
theorem Vals.inj : ∀ {xs ys : List V} {us : List Value}, Vals xs us → Vals ys us → xs = ys
  | _, _, _, .nil, .nil => rfl
  | _, _, _, .cons r t, .cons r' t' => by rw [r.inj r', Vals.inj t t']
section
variable {X : Cx} {pins : List (Addr × Obj)} {σ : St} {H : Hp} {s : Shared} {a : Addr} {xs ys : List V}
theorem SqL.of {K : PySem.W.Frag} (h : H a = some (.lst xs)) : SqL K H a xs := .inl (.inl h)
theorem Inv.list (I : Inv X pins σ H s) (h : SqL X.K H a xs) : ∃ its : List Value, Vals xs its ∧ PlainL s.heap a its.toArray ∧ xs.length ≤ sizeLine := by
  rcases h with h | ⟨o, its, n, hk, hc, hd, hs, hz, r⟩
  · obtain ⟨z, its, n, r, e⟩ := h.ok I.hok
    exact ⟨its, r, ⟨_, n, e, rfl, rfl, rfl⟩, z⟩
  · refine ⟨its.toList, r, ⟨o, n, I.kIn a o hk, hc, hd, by simpa using hs⟩, ?_⟩
    have e := r.length
    simp only [Array.length_toList] at e
    omega
theorem Inv.tuple (I : Inv X pins σ H s) (h : SqT X.K H a xs) : ∃ its : List Value, Vals xs its ∧ IsTup s.heap a its.toArray ∧ xs.length ≤ sizeLine := by
  rcases h with h | ⟨o, its, n, hk, hc, hs, hz, r⟩
  · obtain ⟨z, its, r, p⟩ := h.ok I.hok
    exact ⟨its, r, p, z⟩
  · refine ⟨its.toList, r, ⟨o, I.kIn a o hk, hc, n, by simpa using hs⟩, ?_⟩
    have e := r.length
    simp only [Array.length_toList] at e
    omega
theorem Inv.list_inj (I : Inv X pins σ H s) (h : SqL X.K H a xs) (h' : SqL X.K H a ys) : xs = ys := by
  obtain ⟨its, r, ⟨o, n, e, _, _, d⟩, _⟩ := I.list h
  obtain ⟨its', r', ⟨o', n', e', _, _, d'⟩, _⟩ := I.list h'
  rw [e] at e'; cases e'
  rw [d] at d'
  injection d' with d1 _
  have : its = its' := by simpa using congrArg Array.toList d1
  subst this
  exact r.inj r'
theorem Inv.tuple_inj (I : Inv X pins σ H s) (h : SqT X.K H a xs) (h' : SqT X.K H a ys) : xs = ys := by
  obtain ⟨its, r, ⟨o, e, _, n, d⟩, _⟩ := I.tuple h
  obtain ⟨its', r', ⟨o', e', _, n', d'⟩, _⟩ := I.tuple h'
  rw [e] at e'; cases e'
  rw [d] at d'
  injection d' with d1 _
  have : its = its' := by simpa using congrArg Array.toList d1
  subst this
  exact r.inj r'
end
abbrev Cx.wish (X : Cx) (E : Value → Shared → Prop) : Cx := { X with xe := E }
abbrev Cx.nox (X : Cx) : Cx := X.wish fun _ _ => False
theorem Cx.Ok.wish {X : Cx} (ok : X.Ok) (E : Value → Shared → Prop) : (X.wish E).Ok :=
  ⟨ok.mod, ok.kind, ok.glob, ok.blt, ok.above, ok.inj, ok.has, ok.cab, ok.hd, ok.frames, ok.stk, ok.exf, ok.bs, ok.bsz, ok.noex, ok.exfs, ok.funs, ok.frf⟩
theorem Cx.Ok.unwish {X : Cx} {E : Value → Shared → Prop} (ok : (X.wish E).Ok) : X.Ok :=
  ⟨ok.mod, ok.kind, ok.glob, ok.blt, ok.above, ok.inj, ok.has, ok.cab, ok.hd, ok.frames, ok.stk, ok.exf, ok.bs, ok.bsz, ok.noex, ok.exfs, ok.funs, ok.frf⟩
section
variable {X : Cx} {pins : List (Addr × Obj)} {σ : St} {H : Hp} {s : Shared} {E : Value → Shared → Prop}
theorem Inv.wish (I : Inv X pins σ H s) (E : Value → Shared → Prop) : Inv (X.wish E) pins σ H s := ⟨I.ok.wish E, I.os, I.bare, I.base, I.loc, I.cell, I.free, I.freeC, I.pin, I.hok, I.len⟩
theorem Inv.unwish (I : Inv (X.wish E) pins σ H s) : Inv X pins σ H s := ⟨I.ok.unwish, I.os, I.bare, I.base, I.loc, I.cell, I.free, I.freeC, I.pin, I.hok, I.len⟩
theorem SP.unwish {D : Ends} {f : Flow} {s' : Shared} (h : SP (X.wish E) pins D f s') : SP X pins D f s' := by
  cases f with
  | next => obtain ⟨σ', H', I, q⟩ := h; exact ⟨σ', H', I.unwish, q⟩
  | brk => obtain ⟨σ', H', I, q⟩ := h; exact ⟨σ', H', I.unwish, q⟩
  | cont => obtain ⟨σ', H', I, q⟩ := h; exact ⟨σ', H', I.unwish, q⟩
  | ret u => obtain ⟨v, σ', H', I, r, q⟩ := h; exact ⟨v, σ', H', I.unwish, r, q⟩
theorem PSs.nox {st : List Stmt} {t : TS} (h : PSs X.nox st t) : PSs X st t := fun pins s σ H D I hw =>
  wpAny_mono (h pins s σ H D (I.wish _) hw) (fun _ _ q => q.unwish) fun _ _ z => False.elim z
end
section
variable {X : Cx} {st : Stmt} {rest : List Stmt} {t u : TS} {e : Expr} {te : TE} {pos : Pos}
def tNext : TS := fun D σ H => D.nx σ H
def tSeq (t u : TS) : TS := fun D σ H => t { D with nx := u D } σ H
theorem pss_nil : PSs X [] tNext := fun _ _ σ H _ I h => wpAny_execs_nil ⟨σ, H, I, h⟩
theorem pss_cons (h1 : PS X st t) (h2 : PSs X rest u) : PSs X (st :: rest) (tSeq t u) := by
  intro pins s σ H D I h
  refine wpAny_execs_cons (thn (h1 pins s σ H { D with nx := u D } I h) fun f s1 q => ?_)
  cases f with
  | next =>
    obtain ⟨σ', H', I', q⟩ := q
    exact h2 pins s1 σ' H' D I' q
  | ret v => exact q
  | brk => exact q
  | cont => exact q
theorem pss_one (h1 : PS X st t) : PSs X [st] t := by
  intro pins s σ H D I h
  refine wpAny_execs_cons (thn (h1 pins s σ H D I h) fun f s1 q => ?_)
  cases f with
  | next => exact wpAny_execs_nil q
  | ret v => exact q
  | brk => exact q
  | cont => exact q
theorem Inv.quiet {pins : List (Addr × Obj)} {σ : St} {H : Hp} {s : Shared} (I : Inv X pins σ H s) : interactive X.env = false := by simp [interactive, I.ok.kind]
def tDrop (te : TE) : TS := fun D σ H => te σ H fun _ H1 => D.nx σ H1
theorem ps_expr (he : PE X e te) (hs : swapsWith e none pos.line X.env = pure false := by rfl) : PS X (.Expr e pos) (tDrop te) := by
  intro pins s σ H D I h
  exact wpAny_Expr_any (thn (he pins s σ H _ I h) (by rintro v s1 ⟨x, H1, I1, r1, q1⟩; exact ⟨σ, H1, I1, q1⟩)) I.quiet hs
def tRet (te : TE) : TS := fun D σ H => te σ H D.rt
theorem ps_ret (he : PE X e te) : PS X (.Return (some e) pos) (tRet te) := by
  intro pins s σ H D I h
  exact wpAny_Return_some (thn (he pins s σ H _ I h) (by rintro v s1 ⟨x, H1, I1, r1, q1⟩; exact ⟨x, σ, H1, I1, r1, q1⟩))
def tIfS (c : TT) (t u : TS) : TS := fun D σ H => c σ H fun b H1 => if b = true then t D σ H1 else u D σ H1
theorem ps_if {c : Expr} {a b : List Stmt} {tc : TT} (hc : PT X c tc) (ha : PSs X a t) (hb : PSs X b u) : PS X (.If c a b pos) (tIfS tc t u) := by
  intro pins s σ H D I h
  refine wpAny_If (thn (hc pins s σ H _ I h) ?_)
  rintro d s1 ⟨H1, I1, q1⟩
  cases d with
  | true => exact ha pins s1 σ H1 D I1 q1
  | false => exact hb pins s1 σ H1 D I1 q1
end
abbrev TG := V → St → Hp → (St → Hp → Prop) → Prop
abbrev TGs := List V → St → Hp → (St → Hp → Prop) → Prop
def PG (X : Cx) (target : Expr) (t : TG) : Prop :=
  ∀ (pins : List (Addr × Obj)) (s : Shared) (σ : St) (H : Hp) (v : V) (u : Value) (Q : St → Hp → Prop), Inv X pins σ H s → RelV v u → t v σ H Q →
    wpAny (model X.prog X.w) X.A (assign target X.env u) (fun _ s' => ∃ σ' H', Inv X pins σ' H' s' ∧ Q σ' H') X.xe s
def PGs (X : Cx) (ts : List Expr) (t : TGs) : Prop :=
  ∀ (pins : List (Addr × Obj)) (s : Shared) (σ : St) (H : Hp) (vs : List V) (us : List Value) (Q : St → Hp → Prop), Inv X pins σ H s → Vals vs us → t vs σ H Q →
    wpAny (model X.prog X.w) X.A (assignInOrder ((assignEach ts X.env).map (·.2)) us) (fun _ s' => ∃ σ' H', Inv X pins σ' H' s' ∧ Q σ' H') X.xe s
abbrev TSet := V → V → V → Hp → (Hp → Prop) → Prop
def PSet (X : Cx) (t : TSet) : Prop :=
  ∀ (pins : List (Addr × Obj)) (s : Shared) (σ : St) (H : Hp) (o i v : V) (ov iv u : Value) (Q : Hp → Prop), Inv X pins σ H s → RelV o ov → RelV i iv → RelV v u → t o i v H Q →
    wpAny (model X.prog X.w) X.A (setItem ov iv u) (fun _ s' => ∃ H', Inv X pins σ H' s' ∧ Q H') X.xe s
section
variable {X : Cx} {pos : Pos}
noncomputable def gName (i : Nat) : TG := fun v σ H Q => Q (σ.set i (some v)) H
theorem pg_name {i : Nat} {x : Str} (hN : X.N.Nodup) (hi : X.N[i]? = some x) (hx : Loc X.env.scope x) (hf : X.fn x = true ∨ X.env.scope.names.lookup x = some .local := by first | exact .inl rfl | exact .inr rfl | assumption) : PG X (.Name x pos) (gName i) := by
  intro pins s σ H v u Q I r h
  exact wpAny_assign_Name (store_ok I hN hi hx r (fun s' I' => ⟨_, H, I', h⟩) hf)
noncomputable def gNil : TGs := fun vs σ H Q => vs = [] ∧ Q σ H
noncomputable def gCons (t : TG) (u : TGs) : TGs := fun vs σ H Q => ∃ v r, vs = v :: r ∧ t v σ H fun σ' H' => u r σ' H' Q
theorem pgs_nil : PGs X [] gNil := by
  intro pins s σ H vs us Q I r h
  obtain ⟨e, h⟩ := h
  subst e
  cases r
  exact assignInOrder_nil ⟨σ, H, I, h⟩
theorem pgs_cons {e : Expr} {es : List Expr} {t : TG} {u : TGs} (h1 : PG X e t) (h2 : PGs X es u)
    (hs : (assignEach (e :: es) X.env).map (·.2) = assign e X.env :: (assignEach es X.env).map (·.2) := by rfl) : PGs X (e :: es) (gCons t u) := by
  intro pins s σ H vs us Q I r h
  obtain ⟨v, vr, e1, h⟩ := h
  subst e1
  cases r with
  | cons r rr =>
    rw [hs]
    refine assignInOrder_cons (thn (h1 pins s σ H _ _ _ I r h) ?_)
    rintro _ s1 ⟨σ1, H1, I1, q1⟩
    exact h2 pins s1 σ1 H1 _ _ Q I1 rr q1
noncomputable def gTup (K : PySem.W.Frag) (n : Nat) (t : TGs) : TG := fun v σ H Q => ∃ a xs, v = .ref a ∧ SqT K H a xs ∧ xs.length = n ∧ t xs σ H Q
theorem pg_tup {es : List Expr} {k : Nat} {t : TGs} {n : Nat} (hc : X.calm = true) (h : PGs X es t)
    (hn : (assignEach es X.env).length = n := by rfl) (hst : (assignEach es X.env).findIdx? (·.1) = none := by rfl) : PG X (.Tuple es k pos) (gTup X.K n t) := by
  intro pins s σ H v u Q I r hw
  obtain ⟨a, xs, e1, hq, hl, hw⟩ := hw
  subst e1
  cases r
  obtain ⟨its, rv, ht, hz⟩ := I.tuple hq
  refine assign_Tuple_tuple (I.ok.hd hc) ht (by simp [hn, ← hl, rv.length]) hst fun h' hx => ?_
  have I1 : Inv X pins σ H { s with heap := h' } := I.kept (t' := s.toks) fun b o e => hx b o (Nat.ne_of_lt (Heap.lt_size e)) e
  exact h pins _ σ H xs _ Q I1 (by simpa using rv) hw
noncomputable def gSub (to ti : TE) (t : TSet) : TG := fun v σ H Q => to σ H fun o H1 => ti σ H1 fun i H2 => t o i v H2 fun H3 => Q σ H3
theorem pg_sub {o i : Expr} {to ti : TE} {t : TSet} (ho : PE X o to) (hi : PE X i ti) (hs : PSet X t)
    (ha : ∀ v, assign (.Subscript o i pos) X.env v = (do
      let ov ← holding [v] (eval o X.env)
      let iv ← holding [v, ov] (eval i X.env)
      standAt pos
      holding [v, ov, iv] (setItem ov iv v)
      release [v, ov, iv] []) := by intro _; rfl) : PG X (.Subscript o i pos) (gSub to ti t) := by
  intro pins s σ H v u Q I r h
  rw [ha]
  refine wpAny_bind (wpAny_holding (thn (ho pins s σ H _ I h) ?_))
  rintro ov s1 ⟨x, H1, I1, r1, q1⟩
  refine wpAny_bind (wpAny_holding (thn (hi pins s1 σ H1 _ I1 q1) ?_))
  rintro iv s2 ⟨y, H2, I2, r2, q2⟩
  refine wpAny_bind (wpAny_standAt (wpAny_bind (wpAny_holding (thn (hs pins s2 σ H2 x y v ov iv u _ I2 r1 r2 r q2) ?_))))
  rintro _ s3 ⟨H3, I3, q3⟩
  exact wpAny_release ⟨σ, H3, I3, q3⟩
def tAsg (te : TE) (g : TG) : TS := fun D σ H => te σ H fun x H1 => g x σ H1 D.nx
theorem ps_asg {tg e : Expr} {te : TE} {g : TG} (he : PE X e te) (hg : PG X tg g) (hs : swapsWithSole [tg] e pos.line X.env = pure false := by rfl) (hw : swappedStores [tg] e X.env = pure none := by rfl)
    (h1 : (assignEach [tg] X.env).map (·.2) = [assign tg X.env] := by rfl) : PS X (.Assign [tg] e pos) (tAsg te g) := by
  intro pins s σ H D I h
  refine wpAny_Assign_stores (thn (he pins s σ H _ I h) fun v s1 ⟨x, H1, I1, r1, q1⟩ => ?_) hs hw
  rw [h1]
  exact thn (hg pins s1 σ H1 x v _ I1 r1 q1) fun _ s2 q => q
theorem ps_set {i : Nat} {x : Str} {e : Expr} {te : TE} {pos' : Pos} (hN : X.N.Nodup) (hi : X.N[i]? = some x) (hx : Loc X.env.scope x) (he : PE X e te) (hs : swapsWith e (some (.Name x pos')) pos.line X.env = pure false := by rfl) (hf : X.fn x = true ∨ X.env.scope.names.lookup x = some .local := by first | exact .inl rfl | exact .inr rfl | assumption) :
    PS X (.Assign [.Name x pos'] e pos) (tAsg te (gName i)) := by
  intro pins s σ H D I h
  refine wpAny_Assign_Name (thn (he pins s σ H _ I h) fun v s1 ⟨y, H1, I1, r1, q1⟩ => ?_) hs
  exact store_ok I1 hN hi hx r1 (fun s2 I2 => ⟨_, H1, I2, q1⟩) hf
def tPar (i j : Nat) (ta : TA) : TS := fun D σ H => ta σ H fun vs H1 => ∃ v w, vs = [v, w] ∧ D.nx ((σ.set i (some v)).set j (some w)) H1
theorem ps_par {i j : Nat} {x y : Str} {a b : Expr} {ta : TA} {px py pt : Pos} {kt k2 pt2} (hc : X.calm = true) (hN : X.N.Nodup) (hi : X.N[i]? = some x) (hj : X.N[j]? = some y) (hij : i ≠ j)
    (hx : X.env.scope.names.lookup x = some .local) (hy : X.env.scope.names.lookup y = some .local) (ha : PA X [a, b] ta)
    (hw : swappedStores [.Tuple [.Name x px, .Name y py] kt pt] (.Tuple [a, b] k2 pt2) X.env = pure (some [x, y]))
    (hs : swapsWithSole [.Tuple [.Name x px, .Name y py] kt pt] (.Tuple [a, b] k2 pt2) pos.line X.env = pure false := by rfl) :
    PS X (.Assign [.Tuple [.Name x px, .Name y py] kt pt] (.Tuple [a, b] k2 pt2) pos) (tPar i j ta) := by
  intro pins s σ H D I h
  rw [exec_Assign_arm]
  refine wpAny_bind (wpAny_standAt ?_)
  rw [hs]
  refine wpAny_bind (wpAny_pure ?_)
  rw [if_neg (by decide)]
  refine wpAny_bind (Tuple_ (thn (ha _ pins s σ H _ I h) ?_))
  rintro us s1 ⟨vs, H1, I1, r1, q1⟩
  obtain ⟨v, w, e1, q1⟩ := q1
  subst e1
  obtain ⟨u1, u2, rfl, rv, rw'⟩ : ∃ u1 u2, us = [u1, u2] ∧ RelV v u1 ∧ RelV w u2 := by
    cases r1 with
    | cons p q =>
      cases q with
      | cons p' q' =>
        cases q'
        exact ⟨_, _, rfl, p, p'⟩
  refine wpAny_newObj_type ?_ (by show 2 ≤ sizeLine; decide)
  have I2 : Inv X pins σ H1 { s1 with heap := s1.heap.push { cls := .type "tuple", data := .seq [u1, u2].toArray } } := I1.kept (t' := s1.toks) fun b o e => Heap.get?_push_of_some _ e
  rw [hw]
  refine wpAny_bind (wpAny_pure ?_)
  show wpAny (model X.prog X.w) X.A (do rule "assign.swapped-stores"; let items ← unpackItems (.ref s1.heap.objs.size) 2 none; assignInOrder [fun v => bindName X.env y v, fun v => bindName X.env x v] items.reverse; pure Flow.next) _ _ _
  refine wpAny_bind (wpAny_rule (wpAny_bind (unpackItems_tuple (items := #[u1, u2]) (I.ok.hd hc) (IsTup.new s1.heap _) fun h' hx' => ?_)))
  have I3 := I2.kept (h' := h') (t' := s1.toks) fun b o e => hx' b o (Nat.ne_of_lt (Heap.lt_size e)) e
  show wpAny _ _ (assignInOrder [fun v => bindName X.env y v, fun v => bindName X.env x v] [u2, u1] >>= fun _ => pure Flow.next) _ _ _
  refine wpAny_bind (assignInOrder_cons (wpAny_bindName (store_ok I3 hN hj (.inl hy) rw' (fun s2 I4 => ?_) (.inr hy))))
  refine assignInOrder_cons (wpAny_bindName (store_ok I4 hN hi (.inl hx) rv (fun s3 I5 => assignInOrder_nil (wpAny_pure ?_)) (.inr hx)))
  rw [List.set_comm _ _ (Ne.symm hij)] at I5
  exact ⟨_, H1, I5, q1⟩
end
structure It where
  go : Nat → Hp → Prop
  yld : Nat → Hp → V → Hp → Prop
  stop : Nat → Hp → Prop
def FpOk (X : Cx) (pins : List (Addr × Obj)) (H : Hp) (b : Addr) : Prop :=
  H b = none ∧ b ≠ X.env.locals ∧ b ∉ X.fs ∧ (b ∈ X.ex ∨ X.s₀.heap.objs.size ≤ b) ∧ (∀ x c, X.env.cells.lookup x = some c → c ≠ b) ∧ ∀ p ∈ X.pn ++ pins, p.1 ≠ b
theorem Inv.fpOk {X : Cx} {pins : List (Addr × Obj)} {σ : St} {H H' : Hp} {s : Shared} {b : Addr} (I : Inv X pins σ H s) (hb : s.heap.objs.size ≤ b) (hn : H' b = none) : FpOk X pins H' b := by
  refine ⟨hn, Nat.ne_of_gt (Nat.lt_of_lt_of_le I.lt hb), I.nofs hb, .inr (Nat.le_trans I.sz hb), fun x c e z => ?_, fun p hp z => ?_⟩
  · obtain ⟨v, q⟩ := I.cell x c e
    exact absurd (Nat.lt_of_lt_of_le q.lt (by rw [z]; exact hb)) (Nat.lt_irrefl _)
  · exact absurd (Nat.lt_of_lt_of_le (Heap.lt_size (I.pin p hp).1) (by rw [z]; exact hb)) (Nat.lt_irrefl _)
structure Turn (P : Program) (w : World) (K : PySem.W.Frag) (tg : Expr) (J : It) (fp : List Addr) (it : Addr) (tn : Nat → Heap → Prop) : Prop where
  mem : it ∈ fp
  obj : ∀ i h, tn i h → ∀ b ∈ fp, ∃ o, h.get? b = some o ∧ ∀ v, o.data ≠ .cell v
  keep : ∀ i h h', tn i h → (∀ b ∈ fp, ∀ o, h.get? b = some o → h'.get? b = some o) → tn i h'
  item : ∀ (X : Cx), X.prog = P → X.w = w → X.K = K → X.calm = true → ∀ (i : Nat) (pins : List (Addr × Obj)) (s : Shared) (σ : St) (H : Hp) (E : Value → Shared → Prop), Inv X pins σ H s → (∀ b ∈ fp, FpOk X pins H b) → tn i s.heap → J.go i H →
    wpAny (model P w) X.A (pyNext (.ref it)) (fun r s1 => ∃ u, r = some u ∧
      wpAny (model P w) X.A (letOwnedTupleGo tg (.ref it) u) (fun _ s2 => ∃ x H', Inv X pins σ H' s2 ∧ RelV x u ∧ J.yld i H x H' ∧ tn (i + 1) s2.heap ∧ ∀ b ∈ fp, H' b = none) E s1) E s
  done : ∀ (X : Cx), X.prog = P → X.w = w → X.K = K → X.calm = true → ∀ (i : Nat) (pins : List (Addr × Obj)) (s : Shared) (σ : St) (H : Hp) (E : Value → Shared → Prop), Inv X pins σ H s → (∀ b ∈ fp, FpOk X pins H b) → tn i s.heap → J.stop i H →
    wpAny (model P w) X.A (pyNext (.ref it)) (fun r s1 => r = none ∧ Inv X pins σ H s1) E s
  self : ∀ (A : Around) (i : Nat) (s : Shared) (Q : Value → Shared → Prop) (E : Value → Shared → Prop), tn i s.heap → Q (.ref it) s → wpAny (model P w) A (pyIter (.ref it)) Q E s
abbrev TI := St → Hp → (It → Hp → Prop) → Prop
def PIE (X : Cx) (pins : List (Addr × Obj)) (σ : St) (tg : Expr) (R : It → Hp → Prop) (itv : Value) (s2 : Shared) : Prop :=
  ∃ (it : Addr) (fp : List Addr) (tn : Nat → Heap → Prop) (J : It) (H' : Hp), itv = .ref it ∧ Inv X pins σ H' s2 ∧ Turn X.prog X.w X.K tg J fp it tn ∧ tn 0 s2.heap ∧ (∀ b ∈ fp, FpOk X pins H' b) ∧ R J H'
def PI (X : Cx) (tg iter : Expr) (wi : TI) : Prop :=
  ∀ (pins : List (Addr × Obj)) (s : Shared) (σ : St) (H : Hp) (R : It → Hp → Prop), Inv X pins σ H s → wi σ H R →
    wpAny (model X.prog X.w) X.A (eval iter X.env) (fun v s1 => wpAny (model X.prog X.w) X.A (pyIter v) (PIE X pins σ tg R) X.xe s1) X.xe s

theorem go_of {M : Model} {A : Around} {E : Value → Shared → Prop} {s : Shared} {tg : Expr} {it : Addr} {u : Value} {o : Obj} {n : String} {vs : Array Value} {Q : Unit → Shared → Prop} (ho : s.heap.get? it = some o) (hc : o.cls = .type n) (hd : o.data = .fields vs)
    (hn : ["enumerate", "zip", "dict_itemiterator", "dict_reverseitemiterator", "odict_iterator", "itertools.zip_longest", "itertools.pairwise"].contains n = false) (hQ : Q () s) : wpAny M A (letOwnedTupleGo tg (.ref it) u) Q E s := by
  unfold letOwnedTupleGo
  cases tg <;> first
    | exact wpAny_pure hQ
    | (cases u <;> first
        | exact wpAny_pure hQ
        | (refine wpAny_bind (wpAny_load ho ?_)
           rw [hc, hd]
           show wpAny M A (if (["enumerate", "zip", "dict_itemiterator", "dict_reverseitemiterator", "odict_iterator", "itertools.zip_longest", "itertools.pairwise"].contains n && vs[0]? == some (rawInt _)) = true then _ else _) Q E s
           rw [if_neg (by intro h; rw [hn, Bool.false_and] at h; cases h)]
           exact wpAny_pure hQ))

noncomputable def Itl (K : PySem.W.Frag) (a : Addr) : It :=
  ⟨fun i H => ∃ xs x, SqL K H a xs ∧ xs[i]? = some x, fun i H x H' => H' = H ∧ ∀ xs, SqL K H a xs → xs[i]? = some x, fun i H => ∃ xs, SqL K H a xs ∧ xs.length ≤ i⟩
noncomputable def Itt (K : PySem.W.Frag) (a : Addr) : It :=
  ⟨fun i H => ∃ xs x, SqT K H a xs ∧ xs[i]? = some x, fun i H x H' => H' = H ∧ ∀ xs, SqT K H a xs → xs[i]? = some x, fun i H => ∃ xs, SqT K H a xs ∧ xs.length ≤ i⟩
noncomputable def Itr (lo : Int) (n : Nat) : It := ⟨fun i _ => i < n, fun i H x H' => H' = H ∧ x = .int (lo + i), fun i _ => n ≤ i⟩
theorem turn_list {P : Program} {w : World} {K : PySem.W.Frag} {tg : Expr} (a it : Addr) : Turn P w K tg (Itl K a) [it] it (fun i h => h.IsListIter it a i) where
  mem := by simp
  obj := fun i h st b hb => by
    have e : b = it := by simpa using hb
    subst e
    obtain ⟨o, e, c, d⟩ := st
    exact ⟨o, e, fun v z => by rw [d] at z; cases z⟩
  keep := fun i h h' st k => st.at fun o e => k it (by simp) o e
  item := by
    intro X hP hw hK hc i pins s σ H E I hf st hg
    subst hP hw hK
    obtain ⟨xs, x, hq, hx⟩ := hg
    obtain ⟨its, rv, p, hz⟩ := I.list hq
    obtain ⟨u, hu, ru⟩ := rv.get hx
    obtain ⟨f0, f1, f2, f3, f4, f5⟩ := hf it (by simp)
    refine wpAny_pyNext_list_item st p.isList (x := u) (by simpa using hu) fun h' st' sb => ?_
    have I1 : Inv X pins σ H { s with heap := h' } := I.turned (t' := s.toks) (fun b o hb e => (sb.2 b hb).trans e) f0 f1 f3 f4 f5
    obtain ⟨o, e, c, d⟩ := id st'
    exact ⟨u, rfl, go_of (s := { s with heap := h' }) e c d (by decide) ⟨x, H, I1, ru, ⟨rfl, fun ys hy => by rw [I.list_inj hy hq]; exact hx⟩, st', fun b hb => (hf b hb).1⟩⟩
  done := by
    intro X hP hw hK hc i pins s σ H E I hf st hg
    subst hP hw hK
    obtain ⟨xs, hq, hx⟩ := hg
    obtain ⟨its, rv, p, hz⟩ := I.list hq
    obtain ⟨f0, f1, f2, f3, f4, f5⟩ := hf it (by simp)
    have hl := rv.length
    exact wpAny_pyNext_list_end (I.ok.hd hc) st p.isList (by simp; omega) fun h' eb => ⟨rfl, I.turned (t' := s.toks) (fun b o hb e => eb b o hb e) f0 f1 f3 f4 f5⟩
  self := fun _ _ _ _ _ st h => wpAny_pyIter_listiter st h
theorem turn_tuple {P : Program} {w : World} {K : PySem.W.Frag} {tg : Expr} (a it : Addr) : Turn P w K tg (Itt K a) [it] it (fun i h => h.IsTupleIter it a i) where
  mem := by simp
  obj := fun i h st b hb => by
    have e : b = it := by simpa using hb
    subst e
    obtain ⟨o, e, c, d⟩ := st
    exact ⟨o, e, fun v z => by rw [d] at z; cases z⟩
  keep := fun i h h' st k => st.at fun o e => k it (by simp) o e
  item := by
    intro X hP hw hK hc i pins s σ H E I hf st hg
    subst hP hw hK
    obtain ⟨xs, x, hq, hx⟩ := hg
    obtain ⟨its, rv, p, hz⟩ := I.tuple hq
    obtain ⟨u, hu, ru⟩ := rv.get hx
    obtain ⟨f0, f1, f2, f3, f4, f5⟩ := hf it (by simp)
    refine wpAny_pyNext_tuple_item st (show s.heap.IsTuple a its.toArray from p) (x := u) (by simpa using hu) fun h' st' sb => ?_
    have I1 : Inv X pins σ H { s with heap := h' } := I.turned (t' := s.toks) (fun b o hb e => (sb.2 b hb).trans e) f0 f1 f3 f4 f5
    obtain ⟨o, e, c, d⟩ := id st'
    exact ⟨u, rfl, go_of (s := { s with heap := h' }) e c d (by decide) ⟨x, H, I1, ru, ⟨rfl, fun ys hy => by rw [I.tuple_inj hy hq]; exact hx⟩, st', fun b hb => (hf b hb).1⟩⟩
  done := by
    intro X hP hw hK hc i pins s σ H E I hf st hg
    subst hP hw hK
    obtain ⟨xs, hq, hx⟩ := hg
    obtain ⟨its, rv, p, hz⟩ := I.tuple hq
    obtain ⟨f0, f1, f2, f3, f4, f5⟩ := hf it (by simp)
    have hl := rv.length
    exact wpAny_pyNext_tuple_end (I.ok.hd hc) st (show s.heap.IsTuple a its.toArray from p) (by simp; omega) fun h' eb => ⟨rfl, I.turned (t' := s.toks) (fun b o hb e => eb b o hb e) f0 f1 f3 f4 f5⟩
  self := fun _ _ _ _ _ st h => wpAny_pyIter_tupleiter st h
theorem turn_range {P : Program} {w : World} {K : PySem.W.Frag} {tg : Expr} (it : Addr) (lo : Int) (n : Nat) : Turn P w K tg (Itr lo n) [it] it (fun i h => IsRangeIter h it (lo + (i : Nat) * 1) ((n : Int) - (i : Nat)) 1) where
  mem := by simp
  obj := fun i h st b hb => by
    have e : b = it := by simpa using hb
    subst e
    exact ⟨_, st, fun v z => by
      have z' : Data.fields _ = Data.cell v := z
      cases z'⟩
  keep := fun i h h' st k => k it (by simp) _ st
  item := by
    intro X hP hw hK hc i pins s σ H E I hf st hg
    subst hP hw hK
    obtain ⟨f0, f1, f2, f3, f4, f5⟩ := hf it (by simp)
    have W := Walks.range (prog := X.prog) (w := X.w) (I.ok.hd hc) it lo 1 n
    refine W.item i s _ _ hg st fun v h' tk hv st' kk => ?_
    obtain ⟨t, rfl⟩ := hv
    have I1 : Inv X pins σ H { s with heap := h', toks := tk } := I.turned (fun b o hb e => kk b o (by simpa using hb) e) f0 f1 f3 f4 f5
    refine ⟨_, rfl, go_of (s := { s with heap := h', toks := tk }) (n := "range_iterator") st' rfl rfl (by decide) ⟨.int (lo + i), H, I1, ⟨t, ?_⟩, ⟨rfl, rfl⟩, st', fun b hb => (hf b hb).1⟩⟩
    rw [Int.mul_one]
  done := by
    intro X hP hw hK hc i pins s σ H E I hf st hg
    subst hP hw hK
    obtain ⟨f0, f1, f2, f3, f4, f5⟩ := hf it (by simp)
    exact wpAny_pyNext_range_end (I.ok.hd hc) st (by have : n ≤ i := hg; omega) fun h' eb => ⟨rfl, I.turned (t' := s.toks) (fun b o hb e => eb b o hb e) f0 f1 f3 f4 f5⟩
  self := fun _ _ _ _ _ st h => wpAny_pyIter_rangeiter st h
end L2
namespace L2
open PySem PySem.Spec PyProof.Rows
section
variable {X : Cx} {tg : Expr}
def iList (K : PySem.W.Frag) (tl : TE) : TI := fun σ H R => tl σ H fun x H1 => ∃ a, x = .ref a ∧ (∃ xs, SqL K H1 a xs) ∧ R (Itl K a) H1
def iTup (K : PySem.W.Frag) (tl : TE) : TI := fun σ H R => tl σ H fun x H1 => ∃ a, x = .ref a ∧ (∃ xs, SqT K H1 a xs) ∧ R (Itt K a) H1
theorem pi_list {l : Expr} {tl : TE} (hl : PE X l tl) : PI X tg l (iList X.K tl) := by
  intro pins s σ H R I h
  refine thn (hl pins s σ H _ I h) ?_
  rintro v s1 ⟨x, H1, I1, r1, q1⟩
  obtain ⟨a, e, ⟨xs, hq⟩, q⟩ := q1
  subst e
  cases r1
  obtain ⟨its, rv, p, hz⟩ := I1.list hq
  refine wpAny_pyIter_list p.isList ?_
  refine ⟨s1.heap.objs.size, [s1.heap.objs.size], _, _, H1, rfl, I1.kept (t' := s1.toks) fun b o e => Heap.get?_push_of_some _ e, turn_list a _, ⟨_, Heap.get?_push_size _ rfl, rfl, rfl⟩, fun b hb => ?_, q⟩
  have e : b = s1.heap.objs.size := by simpa using hb
  subst e
  exact I1.fpOk (Nat.le_refl _) (I1.hok.fresh (Nat.le_refl _))
theorem pi_tup {l : Expr} {tl : TE} (hl : PE X l tl) : PI X tg l (iTup X.K tl) := by
  intro pins s σ H R I h
  refine thn (hl pins s σ H _ I h) ?_
  rintro v s1 ⟨x, H1, I1, r1, q1⟩
  obtain ⟨a, e, ⟨xs, hq⟩, q⟩ := q1
  subst e
  cases r1
  obtain ⟨its, rv, p, hz⟩ := I1.tuple hq
  refine wpAny_pyIter_tuple (show s1.heap.IsTuple a its.toArray from p) ?_
  refine ⟨s1.heap.objs.size, [s1.heap.objs.size], _, _, H1, rfl, I1.kept (t' := s1.toks) fun b o e => Heap.get?_push_of_some _ e, turn_tuple a _, ⟨_, Heap.get?_push_size _ rfl, rfl, rfl⟩, fun b hb => ?_, q⟩
  have e : b = s1.heap.objs.size := by simpa using hb
  subst e
  exact I1.fpOk (Nat.le_refl _) (I1.hok.fresh (Nat.le_refl _))
theorem range_it {pins : List (Addr × Obj)} {σ : St} {H : Hp} {s : Shared} {R : It → Hp → Prop} {E : Value → Shared → Prop} {lo hi : Int} {t u v : Tok} {tk : Nat} (I : Inv X pins σ H s) (h1 : -(2 ^ 62) ≤ lo) (h2 : lo < 2 ^ 62) (h3 : -(2 ^ 62) ≤ hi) (h4 : hi < 2 ^ 62)
    (q : R (Itr lo (hi - lo).toNat) H) : wpAny (model X.prog X.w) X.A (pyIter (.ref s.heap.objs.size)) (PIE X pins σ tg R) E { s with heap := s.heap.push { cls := .type "range", data := .fields #[.int lo t, .int hi u, .int 1 v] }, toks := tk } := by
  refine wpAny_pyIter_range (IsRange.new ..) (small_one h1 h2 h3 h4) ?_
  have I1 : Inv X pins σ H { s with heap := s.heap.push { cls := .type "range", data := .fields #[.int lo t, .int hi u, .int 1 v] }, toks := tk } := I.kept fun b o e => Heap.get?_push_of_some _ e
  refine ⟨(s.heap.push { cls := .type "range", data := .fields #[.int lo t, .int hi u, .int 1 v] }).objs.size, [(s.heap.push { cls := .type "range", data := .fields #[.int lo t, .int hi u, .int 1 v] }).objs.size], _, _, H, rfl,
    I1.kept (t' := tk) fun b o e => Heap.get?_push_of_some _ e, turn_range _ lo (hi - lo).toNat, ?_, fun b hb => ?_, q⟩
  · have e1 : lo + ((0 : Nat) : Int) * 1 = lo := by simp
    have e2 : (((hi - lo).toNat : Nat) : Int) - ((0 : Nat) : Int) = Builtin.Range.rangeSize lo hi 1 := by rw [rangeSize_one]; split <;> omega
    show IsRangeIter _ _ (lo + ((0 : Nat) : Int) * 1) ((((hi - lo).toNat : Nat) : Int) - ((0 : Nat) : Int)) 1
    rw [e1, e2]
    exact Heap.get?_push_size _ rfl
  · have e : b = (s.heap.push { cls := .type "range", data := .fields #[.int lo t, .int hi u, .int 1 v] }).objs.size := by simpa using hb
    subst e
    exact I1.fpOk (Nat.le_refl _) (I1.hok.fresh (Nat.le_refl _))
def iRng1 (ta : TA) : TI := fun σ H R => ta σ H fun vs H1 => ∃ j : Int, vs = [.int j] ∧ -(2 ^ 62) ≤ j ∧ j < 2 ^ 62 ∧ R (Itr 0 j.toNat) H1
theorem pi_range1 {a : Expr} {ta : TA} {p pos : Pos} (hg : Gl X "range") (hm : X.mg "range" = none) (ha : PA X [a] ta) (hs : starEach [a] X.env = [(false, eval a X.env)] := by rfl) : PI X tg (.Call (.Name "range" p) [a] [] pos) (iRng1 ta) := by
  intro pins s σ H R I h
  refine Call_ (ld_blt I hg hm boot_range (PyProof.Rows.callWith_type1 (thn (ha pos pins s σ H _ I h) fun us s1 ⟨vs, H1, I1, r1, q1⟩ => ?_) hs rfl))
  obtain ⟨j, e, q1, q2, q⟩ := q1
  subst e
  cases r1 with
  | cons r rr =>
    cases rr
    obtain ⟨t, rfl⟩ := r
    exact call_range_1 (range_it I1 (by omega) (by omega) q1 q2 (by simpa using q))
def tFor (wi : TI) (g : TG) (tb : TS) : TS := fun D σ H => wi σ H fun J H1 => ∃ W : Nat → Nat → St → Hp → Prop, (∃ m, W 0 m σ H1) ∧ ∀ i m σ H, W i m σ H →
  (J.stop i H ∧ D.nx σ H) ∨ (J.go i H ∧ ∃ N : St → Hp → Prop, (∀ σ' H', N σ' H' → ∃ m', m' < m ∧ W (i + 1) m' σ' H') ∧ ∀ x H', J.yld i H x H' → g x σ H' fun σ2 H2 => tb { D with nx := N, ct := N, bk := D.nx } σ2 H2)
noncomputable def pinsAt (fp : List Addr) (h : Heap) : List (Addr × Obj) := fp.filterMap fun b => (h.get? b).map fun o => (b, o)
theorem mem_pinsAt {fp : List Addr} {h : Heap} {b : Addr} {o : Obj} (hb : b ∈ fp) (e : h.get? b = some o) : (b, o) ∈ pinsAt fp h := List.mem_filterMap.mpr ⟨b, hb, by rw [e]; rfl⟩
theorem of_pinsAt {fp : List Addr} {h : Heap} {p : Addr × Obj} (hp : p ∈ pinsAt fp h) : p.1 ∈ fp ∧ h.get? p.1 = some p.2 := by
  obtain ⟨b, hb, e⟩ := List.mem_filterMap.mp hp
  cases q : h.get? b with
  | none => rw [q] at e; cases e
  | some o =>
    rw [q] at e
    have e' : (b, o) = p := Option.some.inj e
    subst e'
    exact ⟨hb, q⟩
theorem Inv.pinned {pins : List (Addr × Obj)} {σ : St} {H : Hp} {s : Shared} {fp : List Addr} (I : Inv X pins σ H s) (hf : ∀ b ∈ fp, FpOk X pins H b) (ho : ∀ b ∈ fp, ∃ o, s.heap.get? b = some o ∧ ∀ v, o.data ≠ .cell v) : Inv X (pins ++ pinsAt fp s.heap) σ H s :=
  I.pins_of fun p hp => (List.mem_append.mp hp).elim (fun z => I.pin p (List.mem_append_right _ z)) fun z => by
    obtain ⟨hb, e⟩ := of_pinsAt z
    obtain ⟨f0, f1, f2, _⟩ := hf p.1 hb
    obtain ⟨o, e', d⟩ := ho p.1 hb
    rw [e] at e'; cases e'
    exact ⟨e, f0, f1, f2, d⟩
theorem Inv.unpinned {pins pl : List (Addr × Obj)} {σ : St} {H : Hp} {s : Shared} (I : Inv X (pins ++ pl) σ H s) : Inv X pins σ H s := I.pins_of fun p hp => I.pin p (List.mem_append_right _ (List.mem_append_left _ hp))
theorem ps_for {iter : Expr} {body : List Stmt} {wi : TI} {g : TG} {tb : TS} {pos : Pos} (hp : PassesOwn (model X.prog X.w) X.A X.env X.xe) (hc : X.calm = true) (hi : PI X tg iter wi) (hg : PG X tg g) (hb : PSs X body tb)
    (hs : ∀ x, foldedSetIterable iter X.env x = pure x := by intro _; rfl) : PS X (.For tg iter body [] pos) (tFor wi g tb) := by
  intro pins s σ H D I h
  refine wpAny_For (thn (hi pins s σ H _ I h) fun v s1 h1 => thn h1 fun itv s2 h2 => ?_) hs
  obtain ⟨it, fp, tn, J, H2, e, I2, T, st2, f2, W, ⟨m0, w0⟩, turn⟩ := h2
  subst e
  -- what stays true of the iterator's objects through the loop
  have stat : ∀ {H' : Hp}, (∀ b ∈ fp, H' b = none) → ∀ b ∈ fp, FpOk X pins H' b := fun hn b hb => ⟨hn b hb, (f2 b hb).2⟩
  refine codeAny_forLoop_any (fun n s' => ∃ i σ' H', Inv X pins σ' H' s' ∧ tn i s'.heap ∧ (∀ b ∈ fp, H' b = none) ∧ W i n σ' H') ?_ m0 ⟨0, σ, H2, I2, st2, fun b hb => (f2 b hb).1, w0⟩
  rintro n s3 ⟨i, σ3, H3, I3, st3, fr3, w3⟩
  rcases turn i n σ3 H3 w3 with ⟨stop, qn⟩ | ⟨go, N, hN, step⟩
  · refine wpAny_passesOwn hp (thn (T.done X rfl rfl rfl hc i pins s3 σ3 H3 X.xe I3 (stat fr3) st3 stop) ?_)
    rintro r s4 ⟨hr, I4⟩
    subst hr
    exact wpAny_execs_nil ⟨σ3, H3, I4, qn⟩
  · refine wpAny_passesOwn hp (thn (T.item X rfl rfl rfl hc i pins s3 σ3 H3 X.xe I3 (stat fr3) st3 go) ?_)
    rintro r s4 ⟨u, hr, h4⟩
    subst hr
    refine wpAny_passesOwn hp (thn h4 ?_)
    rintro _ s5 ⟨x, H5, I5, r5, y5, st5, fr5⟩
    have I5' := I5.pinned (stat fr5) (T.obj _ _ st5)
    refine wpAny_passesOwn hp (thn (hg _ s5 σ3 H5 x u _ I5' r5 (step x H5 y5)) ?_)
    rintro _ s6 ⟨σ6, H6, I6, q6⟩
    refine wpAny_passesOwn hp (thn (hb _ s6 σ6 H6 _ I6 q6) fun f s7 q7 => ?_)
    have again : ∀ {σ7 : St} {H7 : Hp}, Inv X (pins ++ pinsAt fp s5.heap) σ7 H7 s7 → N σ7 H7 → ∃ m, m < n ∧ ∃ i σ' H', Inv X pins σ' H' s7 ∧ tn i s7.heap ∧ (∀ b ∈ fp, H' b = none) ∧ W i m σ' H' := fun {σ7 H7} I7 n7 => by
      obtain ⟨m', hm, w7⟩ := hN σ7 H7 n7
      refine ⟨m', hm, i + 1, σ7, H7, I7.unpinned, T.keep _ _ _ st5 fun b hb o e => (I7.pin (b, o) (List.mem_append_right _ (List.mem_append_right _ (mem_pinsAt hb e)))).1, fun b hb => ?_, w7⟩
      obtain ⟨o, e, d⟩ := T.obj _ _ st5 b hb
      exact (I7.pin (b, o) (List.mem_append_right _ (List.mem_append_right _ (mem_pinsAt hb e)))).2.1
    cases f with
    | next => obtain ⟨σ7, H7, I7, n7⟩ := q7; exact again I7 n7
    | cont => obtain ⟨σ7, H7, I7, n7⟩ := q7; exact again I7 n7
    | brk => obtain ⟨σ7, H7, I7, q7⟩ := q7; exact ⟨σ7, H7, I7.unpinned, q7⟩
    | ret v => obtain ⟨x7, σ7, H7, I7, r7, q7⟩ := q7; exact ⟨x7, σ7, H7, I7.unpinned, r7, q7⟩
end
end L2
namespace L2
open PySem PySem.Spec PyProof.Rows
abbrev R2 := V → V → Hp → VK → Prop
def OpR (X : Cx) (f : Value → Value → Sem Value) (r : R2) : Prop :=
  ∀ (pins : List (Addr × Obj)) (s : Shared) (σ : St) (H : Hp) (x y : V) (v u : Value) (Q : VK), Inv X pins σ H s → RelV x v → RelV y u → r x y H Q →
    wpAny (model X.prog X.w) X.A (f v u) (EP X pins σ Q) X.xe s
def UnR (X : Cx) (f : Value → Sem Value) (r : V → Hp → VK → Prop) : Prop :=
  ∀ (pins : List (Addr × Obj)) (s : Shared) (σ : St) (H : Hp) (x : V) (v : Value) (Q : VK), Inv X pins σ H s → RelV x v → r x H Q →
    wpAny (model X.prog X.w) X.A (f v) (EP X pins σ Q) X.xe s
def CallR (X : Cx) (f : Value) (r : List V → Hp → VK → Prop) : Prop :=
  ∀ (pins : List (Addr × Obj)) (s : Shared) (σ : St) (H : Hp) (xs : List V) (us : List Value) (Q : VK), Inv X pins σ H s → Vals xs us → r xs H Q →
    wpAny (model X.prog X.w) X.A (call f us) (EP X pins σ Q) X.xe s
def tOp (r : R2) (ta tb : TE) : TE := fun σ H Q => ta σ H fun x H1 => tb σ H1 fun y H2 => r x y H2 Q
def tUn (r : V → Hp → VK → Prop) (ta : TE) : TE := fun σ H Q => ta σ H fun x H1 => r x H1 Q
def rI (C : Int → Int → Prop) (g : Int → Int → V) : R2 := fun x y H Q => ∃ i j, x = .int i ∧ y = .int j ∧ C i j ∧ Q (g i j) H
def rI0 (g : Int → Int → V) : R2 := fun x y H Q => ∃ i j, x = .int i ∧ y = .int j ∧ Q (g i j) H
def rU (g : Int → V) : V → Hp → VK → Prop := fun x H Q => ∃ i, x = .int i ∧ Q (g i) H

section
variable {X : Cx} {a b c : Expr} {ta tb tc : TE} {pos : Pos}
theorem binT (ha : PE X a ta) (hb : PE X b tb) {pins : List (Addr × Obj)} {s : Shared} {σ : St} {H : Hp} {R : V → V → Hp → Prop} (I : Inv X pins σ H s)
    (h : ta σ H fun x H1 => tb σ H1 fun y H2 => R x y H2) {Q : Value → Shared → Prop} {f : Value → Value → Sem Value}
    (hf : ∀ v u s2 x y H2, Inv X pins σ H2 s2 → RelV x v → RelV y u → R x y H2 → wpAny (model X.prog X.w) X.A (f v u) Q X.xe s2) :
    wpAny (model X.prog X.w) X.A (eval a X.env) (fun v s₁ => wpAny (model X.prog X.w) X.A (eval b X.env) (fun u s₂ => wpAny (model X.prog X.w) X.A (f v u) Q X.xe s₂) X.xe s₁) X.xe s := by
  refine thn (ha pins s σ H _ I h) ?_
  rintro v s1 ⟨x, H1, I1, r1, q1⟩
  refine thn (hb pins s1 σ H1 _ I1 q1) ?_
  rintro u s2 ⟨y, H2, I2, r2, q2⟩
  exact hf v u s2 x y H2 I2 r1 r2 q2

theorem pe_op {op : Operator} {r : R2} (ho : OpR X (binaryOp op) r) (ha : PE X a ta) (hb : PE X b tb) : PE X (.BinOp a op b pos) (tOp r ta tb) := by
  intro pins s σ H Q I h
  exact wpAny_BinOp (binT ha hb I h fun v u s2 x y H2 I2 rx ry q => ho pins s2 σ H2 x y v u Q I2 rx ry q)
theorem pe_un {op : UnaryOp} {r : V → Hp → VK → Prop} (ho : UnR X (unaryOp op) r) (ha : PE X a ta) : PE X (.UnaryOp op a pos) (tUn r ta) := by
  intro pins s σ H Q I h
  exact UnaryOp_ (thn (ha pins s σ H _ I h) (by rintro v s1 ⟨x, H1, I1, r1, q1⟩; exact ho pins s1 σ H1 x v Q I1 r1 q1))
theorem opI {f : Value → Value → Sem Value} {C : Int → Int → Prop} {g : Int → Int → Int}
    (rule : ∀ (i j : Int) (t u : Tok) (s : Shared) (Q : Value → Shared → Prop) (E : Value → Shared → Prop), C i j → Q (.int (g i j) s.toks) { s with toks := s.toks + 1 } → wpAny (model X.prog X.w) X.A (f (.int i t) (.int j u)) Q E s) :
    OpR X f (rI C fun i j => .int (g i j)) := by
  intro pins s σ H x y v u Q I rx ry h
  obtain ⟨i, j, rfl, rfl, hc, q⟩ := h
  obtain ⟨t, rfl⟩ := rx
  obtain ⟨t', rfl⟩ := ry
  exact rule i j t t' s _ _ hc ⟨.int (g i j), H, I.tok _, ⟨_, rfl⟩, q⟩
theorem opI0 {f : Value → Value → Sem Value} {g : Int → Int → Int}
    (rule : ∀ (i j : Int) (t u : Tok) (s : Shared) (Q : Value → Shared → Prop) (E : Value → Shared → Prop), Q (.int (g i j) s.toks) { s with toks := s.toks + 1 } → wpAny (model X.prog X.w) X.A (f (.int i t) (.int j u)) Q E s) :
    OpR X f (rI0 fun i j => .int (g i j)) := by
  intro pins s σ H x y v u Q I rx ry h
  obtain ⟨i, j, rfl, rfl, q⟩ := h
  obtain ⟨t, rfl⟩ := rx
  obtain ⟨t', rfl⟩ := ry
  exact rule i j t t' s _ _ ⟨.int (g i j), H, I.tok _, ⟨_, rfl⟩, q⟩
theorem opB0 {f : Value → Value → Sem Value} {g : Int → Int → Bool}
    (rule : ∀ (i j : Int) (t u : Tok) (s : Shared) (Q : Value → Shared → Prop) (E : Value → Shared → Prop), Q (.bool (g i j)) s → wpAny (model X.prog X.w) X.A (f (.int i t) (.int j u)) Q E s) :
    OpR X f (rI0 fun i j => .bl (g i j)) := by
  intro pins s σ H x y v u Q I rx ry h
  obtain ⟨i, j, rfl, rfl, q⟩ := h
  obtain ⟨t, rfl⟩ := rx
  obtain ⟨t', rfl⟩ := ry
  exact rule i j t t' s _ _ ⟨.bl (g i j), H, I, rfl, q⟩

def CDiv (i j : Int) : Prop := 0 < j ∧ j < 1073741824
def CPow (i j : Int) : Prop := 0 ≤ j ∧ j ≤ 1000000 ∧ i.natAbs < 2 ^ 64
def CMul (i j : Int) : Prop := (-(2 ^ 64) < i ∧ i < 2 ^ 64) ∨ (-(2 ^ 64) < j ∧ j < 2 ^ 64)
theorem CMul.ok {i j : Int} (h : CMul i j) : IntMulOk i j := by
  rcases h with ⟨h1, h2⟩ | ⟨h1, h2⟩
  · exact .of_left (intBits_le_64 h1 h2)
  · exact .of_right (intBits_le_64 h1 h2)
theorem op_add : OpR X (binaryOp .Add) (rI0 fun i j => .int (i + j)) := opI0 fun _ _ _ _ _ _ _ q => add_int q
theorem op_sub : OpR X (binaryOp .Sub) (rI0 fun i j => .int (i - j)) := opI0 fun _ _ _ _ _ _ _ q => sub_int q
theorem op_mul : OpR X (binaryOp .Mult) (rI CMul fun i j => .int (i * j)) := opI fun _ _ _ _ _ _ _ hc q => mul_int q hc.ok
theorem op_fdiv : OpR X (binaryOp .FloorDiv) (rI CDiv fun i j => .int (i / j)) := opI fun i j _ _ _ _ _ hc q => by
  have h1 : (0 : Int) < j := hc.1
  have h2 : j < 1073741824 := hc.2
  exact floordiv_int (by omega) (by rw [Int.fdiv_eq_ediv_of_nonneg i (by omega)]; exact q) (.inl (PyProof.noPylong_small (by omega)))
theorem op_mod : OpR X (binaryOp .Mod) (rI (fun _ j => 0 < j) fun i j => .int (i % j)) := opI fun i j _ _ _ _ _ hc q => by
  have h1 : (0 : Int) < j := hc
  exact mod_int' (by omega) (by rw [Int.fmod_eq_emod_of_nonneg i (by omega)]; exact q)
theorem op_pow : OpR X (binaryOp .Pow) (rI CPow fun i j => .int (i ^ j.toNat)) := opI fun _ _ _ _ _ _ _ hc q => pow_int_small hc.1 hc.2.1 hc.2.2 q
theorem unI {f : Value → Sem Value} {g : Int → Int}
    (rule : ∀ (i : Int) (t : Tok) (s : Shared) (Q : Value → Shared → Prop) (E : Value → Shared → Prop), Q (.int (g i) s.toks) { s with toks := s.toks + 1 } → wpAny (model X.prog X.w) X.A (f (.int i t)) Q E s) :
    UnR X f (rU fun i => .int (g i)) := by
  intro pins s σ H x v Q I rx h
  obtain ⟨i, rfl, q⟩ := h
  obtain ⟨t, rfl⟩ := rx
  exact rule i t s _ _ ⟨.int (g i), H, I.tok _, ⟨_, rfl⟩, q⟩
theorem un_neg : UnR X (unaryOp .USub) (rU fun i => .int (-i)) := unI fun _ _ _ _ _ q => neg_int q
end
section
variable {X : Cx} {a b c : Expr} {ta tb tc : TE} {pos : Pos}
theorem fin_bl {pins : List (Addr × Obj)} {σ : St} {H : Hp} {s : Shared} {Q : VK} {k k' : Bool} (I : Inv X pins σ H s) (q : Q (.bl k) H) (e : k = k') : EP X pins σ Q (.bool k') s := by
  subst e
  exact ⟨.bl k, H, I, rfl, q⟩
theorem op_lt : OpR X (compareOp .Lt) (rI0 fun i j => .bl (decide (i < j))) := opB0 fun _ _ _ _ _ _ _ q => lt_int q
theorem op_le : OpR X (compareOp .LtE) (rI0 fun i j => .bl (decide (i ≤ j))) := opB0 fun _ _ _ _ _ _ _ q => le_int q
theorem op_gt : OpR X (compareOp .Gt) (rI0 fun i j => .bl (decide (j < i))) := opB0 fun _ _ _ _ _ _ _ q => gt_int q
theorem op_ge : OpR X (compareOp .GtE) (rI0 fun i j => .bl (decide (j ≤ i))) := opB0 fun _ _ _ _ _ _ _ q => ge_int q
theorem op_lt_str : OpR X (compareOp .Lt) (fun x y H Q => ∃ i j, x = .str i ∧ y = .str j ∧ Q (.bl (decide (i.cps.toList < j.cps.toList))) H) := by
  intro pins s σ H x y v u Q I rx ry h
  obtain ⟨i, j, rfl, rfl, q⟩ := h
  obtain ⟨t, rfl⟩ := rx
  obtain ⟨t', rfl⟩ := ry
  exact lt_str (fin_bl I q rfl)
theorem op_in_str : OpR X (compareOp .In) (fun x y H Q => ∃ i j, x = .str i ∧ y = .str j ∧ Q (.bl (!(Builtin.Str.occurrences j i 0 j.length 1).isEmpty)) H) := by
  intro pins s σ H x y v u Q I rx ry h
  obtain ⟨i, j, rfl, rfl, q⟩ := h
  obtain ⟨t, rfl⟩ := rx
  obtain ⟨t', rfl⟩ := ry
  exact in_str (fin_bl I q rfl)

theorem op_isN : OpR X (compareOp .Is) (fun x y H Q => y = .non ∧ Q (.bl (decide (x = .non))) H) := by
  intro pins s σ H x y v u Q I rx ry h
  obtain ⟨rfl, q⟩ := h
  cases ry
  refine is_none_gen (fin_bl I q ?_)
  cases x <;> first
    | (cases rx; rfl)
    | (obtain ⟨t, rfl⟩ := rx; rfl)
theorem op_notN : OpR X (compareOp .IsNot) (fun x y H Q => y = .non ∧ Q (.bl (!decide (x = .non))) H) := by
  intro pins s σ H x y v u Q I rx ry h
  obtain ⟨rfl, q⟩ := h
  cases ry
  refine isnot_none_gen (fin_bl I q ?_)
  cases x <;> first
    | (cases rx; rfl)
    | (obtain ⟨t, rfl⟩ := rx; rfl)

theorem OpR.or {f : Value → Value → Sem Value} {r r' : R2} (h : OpR X f r) (h' : OpR X f r') : OpR X f (fun x y H Q => r x y H Q ∨ r' x y H Q) := by
  intro pins s σ H x y v u Q I rx ry q
  rcases q with q | q
  · exact h pins s σ H x y v u Q I rx ry q
  · exact h' pins s σ H x y v u Q I rx ry q

theorem pe_cmpR {op : CmpOp} {r : R2} (ho : OpR X (compareOp op) r) (ha : PE X a ta) (hb : PE X b tb) (hm : behindInMarks op b = false) : PE X (.Compare a [op] [b] pos) (tOp r ta tb) := by
  intro pins s σ H Q I h
  exact wpAny_Compare1 (binT ha hb I h fun v u s2 x y H2 I2 rx ry q => ho pins s2 σ H2 x y v u Q I2 rx ry q) hm
noncomputable def tTest (t : TE) : TT := fun σ H Q => t σ H fun x H' => ∃ k, x = .bl k ∧ Q k H'
theorem pt_cmpR {op : CmpOp} {r : R2} (ho : OpR X (compareOp op) r) (ha : PE X a ta) (hb : PE X b tb) (hm : behindInMarks op b = false) : PT X (.Compare a [op] [b] pos) (tTest (tOp r ta tb)) := by
  intro pins s σ H Q I h
  refine wpAny_isTrue_Compare1 (thn (ha pins s σ H _ I h) fun v s1 ⟨x, H1, I1, r1, q1⟩ => thn (hb pins s1 σ H1 _ I1 q1) fun u s2 ⟨y, H2, I2, r2, q2⟩ =>
    thn (ho pins s2 σ H2 x y v u _ I2 r1 r2 q2) fun c s3 ⟨z, H3, I3, r3, k, e, q3⟩ => ?_) hm
  subst e
  cases r3
  exact wpAny_truthy_bool ⟨H3, I3, q3⟩
def tChain (r r' : R2) (ta tb tc : TE) : TE := fun σ H Q => ta σ H fun x H1 => tb σ H1 fun y H2 => r x y H2 fun z H3 => ∃ k, z = .bl k ∧
  (if k = true then tc σ H3 fun w' H4 => r' y w' H4 Q else Q (.bl false) H3)
theorem pe_chain {op op' : CmpOp} {r r' : R2} (ho : OpR X (compareOp op) r) (ho' : OpR X (compareOp op') r') (ha : PE X a ta) (hb : PE X b tb) (hc : PE X c tc)
    (hm : lastMarks [op, op'] [b, c] = false := by with_unfolding_all rfl) : PE X (.Compare a [op, op'] [b, c] pos) (tChain r r' ta tb tc) := by
  intro pins s σ H Q I h
  refine Compare_chain (thn (ha pins s σ H _ I h) fun v s1 ⟨x, H1, I1, r1, q1⟩ => chain_link (thn (hb pins s1 σ H1 _ I1 q1) fun u s2 ⟨y, H2, I2, r2, q2⟩ =>
    thn (ho pins s2 σ H2 x y v u _ I2 r1 r2 q2) fun d s3 ⟨z, H3, I3, r3, k, e, q3⟩ => ?_)) hm
  subst e
  cases r3
  refine wpAny_truthy_bool ?_
  cases k with
  | false => exact ite_ff ⟨.bl false, H3, I3, rfl, q3⟩
  | true => exact ite_tt (chain_last (thn (hc pins s3 σ H3 _ I3 q3) fun w' s4 ⟨z', H4, I4, r4, q4⟩ => ho' pins s4 σ H4 y z' u w' Q I4 r2 r4 q4))
theorem pt_chain {op op' : CmpOp} {r r' : R2} (ho : OpR X (compareOp op) r) (ho' : OpR X (compareOp op') r') (ha : PE X a ta) (hb : PE X b tb) (hc : PE X c tc)
    (hm : lastMarks [op, op'] [b, c] = false := by with_unfolding_all rfl) : PT X (.Compare a [op, op'] [b, c] pos) (tTest (tChain r r' ta tb tc)) := by
  intro pins s σ H Q I h
  refine isTrue_chain (thn (ha pins s σ H _ I h) fun v s1 ⟨x, H1, I1, r1, q1⟩ => test_link (thn (hb pins s1 σ H1 _ I1 q1) fun u s2 ⟨y, H2, I2, r2, q2⟩ =>
    thn (ho pins s2 σ H2 x y v u _ I2 r1 r2 q2) fun d s3 ⟨z, H3, I3, r3, k, e, q3⟩ => ?_)) hm
  subst e
  cases r3
  refine wpAny_truthy_bool ?_
  cases k with
  | false =>
    obtain ⟨k', e', q'⟩ := q3
    cases e'
    exact ite_ff ⟨H3, I3, q'⟩
  | true =>
    refine ite_tt (test_last (thn (hc pins s3 σ H3 _ I3 q3) fun w' s4 ⟨z', H4, I4, r4, q4⟩ => thn (ho' pins s4 σ H4 y z' u w' _ I4 r2 r4 q4) fun d' s5 ⟨z2, H5, I5, r5, k2, e2, q5⟩ => ?_))
    subst e2
    cases r5
    exact wpAny_truthy_bool ⟨H5, I5, q5⟩

theorem line63 : (sizeLine : Nat) < 2 ^ 63 := by rw [sizeLine_eq]; decide
theorem op_add_str : OpR X (binaryOp .Add) (fun x y H Q => ∃ i j, x = .str i ∧ y = .str j ∧ i.length + j.length ≤ sizeLine ∧ Q (.str (i ++ j)) H) := by
  intro pins s σ H x y v u Q I rx ry h
  obtain ⟨i, j, rfl, rfl, hz, q⟩ := h
  obtain ⟨t, rfl⟩ := rx
  obtain ⟨t', rfl⟩ := ry
  exact add_str (fun t' tk => ⟨.str (i ++ j), H, I.tok _, ⟨_, rfl⟩, q⟩) hz
theorem vals1 {x : V} {us : List Value} (r : Vals [x] us) : ∃ u, us = [u] ∧ RelV x u := by
  cases r with
  | cons r1 r2 => cases r2; exact ⟨_, rfl, r1⟩
theorem vals2 {x y : V} {us : List Value} (r : Vals [x, y] us) : ∃ u w', us = [u, w'] ∧ RelV x u ∧ RelV y w' := by
  cases r with
  | cons r1 r2 =>
    cases r2 with
    | cons r3 r4 => cases r4; exact ⟨_, _, rfl, r1, r3⟩
theorem call_abs : CallR X (.builtin "abs") (fun xs H Q => ∃ i, xs = [.int i] ∧ Q (.int (if i < 0 then -i else i)) H) := by
  intro pins s σ H xs us Q I r h
  obtain ⟨i, rfl, q⟩ := h
  obtain ⟨u, rfl, t, rfl⟩ := vals1 r
  exact call_abs_int fun u tk => ⟨.int (if i < 0 then -i else i), H, I.tok _, ⟨_, rfl⟩, q⟩
theorem call_max2 (hc : X.calm = true) : CallR X (.builtin "max") (fun xs H Q => ∃ i j, xs = [.int i, .int j] ∧ Q (.int (if j > i then j else i)) H) := by
  intro pins s σ H xs us Q I r h
  obtain ⟨i, j, rfl, q⟩ := h
  obtain ⟨u, w', rfl, ⟨t, rfl⟩, ⟨t', rfl⟩⟩ := vals2 r
  refine max_two_ints (I.ok.hd hc) fun h' tk k => ⟨_, H, I.kept k, ?_, q⟩
  by_cases hj : j > i
  · rw [if_pos hj, if_pos hj]; exact ⟨_, rfl⟩
  · rw [if_neg hj, if_neg hj]; exact ⟨_, rfl⟩
theorem call_int1 : CallR X (.type "int") (fun xs H Q => (∃ i, xs = [.int i] ∧ Q (.int i) H) ∨ ∃ k, xs = [.bl k] ∧ Q (.int (if k then 1 else 0)) H) := by
  intro pins s σ H xs us Q I r h
  rcases h with ⟨i, rfl, q⟩ | ⟨k, rfl, q⟩
  · obtain ⟨u, rfl, t, rfl⟩ := vals1 r
    exact call_int_int ⟨.int i, H, I, ⟨_, rfl⟩, q⟩
  · obtain ⟨u, rfl, r1⟩ := vals1 r
    cases r1
    exact call_int_bool ⟨.int (if k then 1 else 0), H, I.tok _, ⟨_, rfl⟩, q⟩
end
end L2
namespace L2
open PySem PySem.Spec PyProof.Rows
theorem RelO.some_of {v : V} {o : Option Value} (r : RelO (some v) o) : ∃ u, o = some u ∧ RelV v u := by
  cases o with
  | none => exact (show False from r).elim
  | some u => exact ⟨u, rfl, r⟩
end L2
namespace L2
open PySem PySem.Spec PyProof.Rows
structure Room (k : Nat) (A : Around) : Prop where
  hd : A.handled = none
  dp : A.depth + 3 * k + 5 < recursionLimit
  un : A.units + 16 * k + 200 < cLine
theorem Room.mono {j k : Nat} {A : Around} (r : Room k A) (h : j ≤ k) : Room j A := ⟨r.hd, by have := r.dp; omega, by have := r.un; omega⟩
theorem Room.deeper {k : Nat} {A : Around} (r : Room (k + 1) A) (env : Env) : Room k (A.deeper env) :=
  ⟨r.hd, by have := r.dp; show A.depth + 1 + 3 * k + 5 < _; omega, by have := r.un; show A.units + 3 + 16 * k + 200 < _; omega⟩
theorem Room.depth {k : Nat} {A : Around} (r : Room k A) : A.depth < recursionLimit := by have := r.dp; omega
noncomputable def tNil : TA := fun _ H Q => Q [] H
noncomputable def tCons (ta : TE) (tr : TA) : TA := fun σ H Q => ta σ H fun x H1 => tr σ H1 fun xs H2 => Q (x :: xs) H2
section
variable {X : Cx} {e : Expr} {es : List Expr} {te : TE} {t : TA} {pos : Pos}
theorem pa_nil : PA X [] tNil := fun _ _ _ _ H Q I h => Calls.spliced_nil ⟨[], H, I, .nil, h⟩
theorem pa_cons (ha : PE X e te) (hr : PA X es t) (hs : starEach (e :: es) X.env = (false, eval e X.env) :: starEach es X.env := by rfl) : PA X (e :: es) (tCons te t) := by
  intro pos pins s σ H Q I h
  rw [hs]
  show wpAny _ _ (spliced ((false, eval e X.env) :: backTo pos (starEach es X.env))) _ _ s
  refine Calls.spliced_cons (thn (ha pins s σ H _ I h) ?_)
  rintro u s1 ⟨x, H1, I1, r1, q1⟩
  exact thn (hr pos pins s1 σ H1 _ I1 q1) fun us s2 ⟨xs, H2, I2, r2, q2⟩ => ⟨x :: xs, H2, I2, .cons r1 r2, q2⟩

def tTup (t : TA) : TE := fun σ H Q => t σ H fun xs H1 => xs.length ≤ sizeLine ∧ ∀ p, H1 p = none → Q (.ref p) (upd H1 p (.tup xs))
def tLst (t : TA) : TE := fun σ H Q => t σ H fun xs H1 => xs.length ≤ sizeLine ∧ ∀ p, H1 p = none → Q (.ref p) (upd H1 p (.lst xs))
theorem pe_tup {x1} (h : PA X es t) : PE X (.Tuple es x1 pos) (tTup t) := by
  intro pins s σ H Q I hq
  refine wpAny_Tuple_spliced (thn (h pos pins s σ H _ I hq) fun us s1 ⟨xs, H1, I1, r, z, q⟩ => ⟨by rw [← r.length]; exact z, ?_⟩)
  have hf : H1 s1.heap.objs.size = none := I1.hok.fresh (Nat.le_refl _)
  refine ⟨.ref s1.heap.objs.size, upd H1 s1.heap.objs.size (.tup xs), I1.laid (t' := s1.toks) (fun b u e => Heap.get?_push_of_some _ e) (Nat.le_refl _) ?_, rfl, q _ hf⟩
  exact ⟨z, us, r, ⟨_, Heap.get?_push_size _ rfl, rfl, _, rfl⟩⟩
theorem pe_lst (h : PA X es t) : PE X (.List es pos) (tLst t) := by
  intro pins s σ H Q I hq
  refine wpAny_List_spliced (thn (h pos pins s σ H _ I hq) fun us s1 ⟨xs, H1, I1, r, z, q⟩ => ⟨by rw [← r.length]; exact z, ?_⟩)
  have hf : H1 s1.heap.objs.size = none := I1.hok.fresh (Nat.le_refl _)
  refine ⟨.ref s1.heap.objs.size, upd H1 s1.heap.objs.size (.lst xs), I1.laid (t' := s1.toks) (fun b u e => Heap.get?_push_of_some _ e) (Nat.le_refl _) ?_, rfl, q _ hf⟩
  exact ⟨z, us, 0, r, Heap.get?_push_size _ rfl⟩
end
abbrev Sp := List V → Hp → VK → XK → Prop
abbrev CXT := List Env → Hp → Shared → XK → Value → Shared → Prop

structure Env0 (P : Program) (w : World) (K : PySem.W.Frag) (mg : Str → Option Value) (base : Heap) (A : Around) (outer : List Env) (s : Shared) (H : Hp) : Prop where
  frames : A.frames = some outer
  mod : Mod K mg base
  bs : ∀ b o, base.get? b = some o → s.heap.get? b = some o ∧ H b = none
  bsz : base.objs.size ≤ s.heap.objs.size
  funs : s.heap.FunFrames base outer
  frf : ∀ b ∈ frs outer, H b = none
  hok : HOk P w H s.heap
  bare : AllBare s.gens
def CE (outer : List Env) (P : Program) (w : World) (H : Hp) (s : Shared) (Q : VK) (u : Value) (s' : Shared) : Prop :=
  ∃ v H', s'.os = s.os ∧ AllBare s'.gens ∧ Un (frs outer) [] H H' s.heap s'.heap ∧ HOk P w H' s'.heap ∧ RelV v u ∧ Q v H'
def CR (CX : CXT) (outer : List Env) (P : Program) (w : World) (H : Hp) (s : Shared) (Q : VK) (E : XK) (r : Result) (s' : Shared) : Prop :=
  match r with
  | .ok (.ret u) => CE outer P w H s Q u s'
  | .ok _ => False
  | .error e => CX outer H s E e s'
structure FnOk (P : Program) (w : World) (K : PySem.W.Frag) (mg : Str → Option Value) (base : Heap) (CX : CXT) (k : Nat) (f : Addr) (fd : FuncData) (ps : List Str) (sp : Sp) : Prop where
  len : ∀ vs H Q E, sp vs H Q E → vs.length = ps.length
  run : ∀ (A : Around) (outer : List Env) (s : Shared) (H : Hp) (args : Args) (us : List Value) (vs : List V) (Q : VK) (E : XK), Room k A → Env0 P w K mg base A outer s H → BindsTo s fd args (ps.zip us) → Vals vs us → sp vs H Q E →
    codeAny (model P w) A (.call (.ref f) args) (CR CX outer P w H s Q E) s
theorem FnOk.mono {P : Program} {w : World} {K : PySem.W.Frag} {mg : Str → Option Value} {base : Heap} {CX : CXT} {j k : Nat} {f : Addr} {fd : FuncData} {ps : List Str} {sp : Sp} (F : FnOk P w K mg base CX j f fd ps sp) (h : j ≤ k) :
    FnOk P w K mg base CX k f fd ps sp := ⟨F.len, fun A outer s H args us vs Q E hr => F.run A outer s H args us vs Q E (hr.mono h)⟩
theorem FnOk.imp {P : Program} {w : World} {K : PySem.W.Frag} {mg : Str → Option Value} {base : Heap} {CX : CXT} {k : Nat} {f : Addr} {fd : FuncData} {ps : List Str} {sp sp' : Sp} (F : FnOk P w K mg base CX k f fd ps sp)
    (h : ∀ vs H Q E, sp' vs H Q E → sp vs H Q E) : FnOk P w K mg base CX k f fd ps sp' :=
  ⟨fun vs H Q E q => F.len vs H Q E (h _ _ _ _ q), fun A outer s H args us vs Q E hr he hb hv hs => F.run A outer s H args us vs Q E hr he hb hv (h _ _ _ _ hs)⟩

section
variable {X : Cx} {pins : List (Addr × Obj)} {σ : St} {H : Hp} {s s' : Shared}
theorem Inv.env0 (I : Inv X pins σ H s) : Env0 X.prog X.w X.K X.mg X.base X.A X.stack s H :=
  ⟨I.ok.frames, I.ok.mod, I.bs, Nat.le_trans I.ok.bsz I.sz, I.stack, I.stkFree, I.hok, I.bare⟩
theorem Inv.after {Q : VK} {u : Value} (I : Inv X pins σ H s) (h : CE X.stack X.prog X.w H s Q u s') : EP X pins σ Q u s' := by
  obtain ⟨v, H', os, bare, un, hok, r, q⟩ := h
  obtain ⟨hh, g, d, t, os'⟩ := s'
  obtain rfl : os' = s.os := os
  exact ⟨v, H', I.call (h' := hh) (g' := g) (d' := d) (t' := t) (ch := []) un hok bare (fun b z => absurd z (by simp)), r, q⟩
end
def tCall (sp : Sp) (dvs : List V) (E : XK) (t : TA) : TE := fun σ H Q => t σ H fun vs H1 => sp (vs ++ dvs) H1 Q E
def Binds (K : PySem.W.Frag) (fd : FuncData) (ps : List Str) (ds : List Value) : Prop :=
  ∀ (s : Shared) (us : List Value), K.In s.heap → (us ++ ds).length = ps.length → BindsTo s fd ⟨us, []⟩ (ps.zip (us ++ ds))
theorem Binds.all {K : PySem.W.Frag} {fd : FuncData} {ps : List Str} (h : ∀ us : List Value, us.length = ps.length → bindArgs fd ⟨us, []⟩ = pure (ps.zip us)) : Binds K fd ps [] := fun s us _ hl => by
  rw [List.append_nil] at hl ⊢
  exact .of_eq (h us hl)

def Passes (CX : CXT) (X : Cx) (E : XK) : Prop := ∀ (pins : List (Addr × Obj)) (σ : St) (H : Hp) (s : Shared) (e : Value) (s' : Shared), Inv X pins σ H s → CX X.stack H s E e s' → X.xe e s'

section
variable {X : Cx} {CX : CXT} {k : Nat} {f C : Addr} {fd : FuncData} {ps : List Str} {sp : Sp} {dvs : List V} {ds : List Value} {E : XK} {x m : Str} {p pos apos : Pos} {e o : Expr} {es : List Expr} {ta : TE} {t : TA}
theorem run_fn {pins : List (Addr × Obj)} {σ : St} {H : Hp} {s : Shared} {Q : VK} {us : List Value} {vs : List V} (F : FnOk X.prog X.w X.K X.mg X.base CX k f fd ps sp) (hr : Room k X.A) (hb : Binds X.K fd ps ds) (hd : Vals dvs ds) (hx : Passes CX X E)
    (I : Inv X pins σ H s) (r : Vals vs us) (h : sp (vs ++ dvs) H Q E) : wpAny (model X.prog X.w) X.A (call (.ref f) us) (EP X pins σ Q) X.xe s := by
  have r2 : Vals (vs ++ dvs) (us ++ ds) := r.append hd
  have hl : (us ++ ds).length = ps.length := by rw [← r2.length]; exact F.len _ _ _ _ h
  refine wpAny_call (codeAny_mono (F.run X.A X.stack s H ⟨us, []⟩ (us ++ ds) (vs ++ dvs) Q E hr I.env0 (hb s us I.kIn hl) r2 h) fun r s' hq => ?_)
  cases r with
  | error e => exact hx pins σ H s e s' I hq
  | ok fl =>
    cases fl with
    | ret u => exact I.after hq
    | next => exact False.elim hq
    | brk => exact False.elim hq
    | cont => exact False.elim hq

theorem pe_call (F : FnOk X.prog X.w X.K X.mg X.base CX k f fd ps sp) (hr : Room k X.A) (hg : Gl X x) (hm : X.mg x = some (.ref f)) (hk : PySem.W.keepIn X.K (.ref f) = true) (hb : Binds X.K fd ps ds) (hd : Vals dvs ds) (hx : Passes CX X E)
    (ha : PA X (e :: es) t) (hdb : (x == ("__debug__" : Str)) = false := by decide) (he : starEach (e :: es) X.env = (false, eval e X.env) :: starEach es X.env := by rfl) (hpl : (backTo pos (starEach es X.env)).any (·.1) = false := by rfl) :
    PE X (.Call (.Name x p) (e :: es) [] pos) (tCall sp dvs E t) := by
  intro pins s σ H Q I h
  refine wpAny_Call_Name_kw (ld_glob I hg hm ?_ hdb)
  refine PySem.W.callWith_K (h₀ := X.base) I.ok.mod.kin hk (thn (ha pos pins s σ H _ I h) fun us s1 ⟨vs, H1, I1, r, q⟩ => ⟨I1.kIn, ?_⟩) he hpl
  exact run_fn F hr hb hd hx I1 r q
end
structure FnScope (N P : List Str) (sc : Scope) : Prop where
  kind : sc.kind = .function
  co : sc.isCoroutine = false
  gen : sc.isGenerator = false
  nd : N.Nodup
  pre : N.take P.length = P
  par : ∀ x ∈ P, sc.names.lookup x = some .local ∨ sc.names.lookup x = some .cell
  nofree : ∀ y ∈ sc.names, y.2 ≠ .free
theorem FnScope.of {N P : List Str} {sc : Scope} (a : sc.kind = .function) (b : sc.isCoroutine = false) (c : sc.isGenerator = false) (p : N.take P.length = P) (h : N.Nodup ∧ (∀ x ∈ P, sc.names.lookup x = some .local ∨ sc.names.lookup x = some .cell) ∧ ∀ y ∈ sc.names, y.2 ≠ .free) : FnScope N P sc := ⟨a, b, c, h.1, p, h.2.1, h.2.2⟩

theorem bindL_out {kindOf : Str → Option NameKind} {x : Str} : ∀ {binds : List (Str × Value)} {m : Str → Option Value}, (∀ v, (x, v) ∉ binds) → bindL kindOf binds m x = m x
  | [], _, _ => rfl
  | (n, v) :: r, m, h => by
    unfold bindL
    rw [bindL_out fun w hw => h w (List.mem_cons_of_mem _ hw)]
    split
    · have : x ≠ n := by rintro rfl; exact h v List.mem_cons_self
      simp [this]
    · rfl
theorem bindC_out {kindOf : Str → Option NameKind} {x : Str} : ∀ {binds : List (Str × Value)} {m : Str → Option Value}, (∀ v, (x, v) ∉ binds) → bindC kindOf binds m x = m x
  | [], _, _ => rfl
  | (n, v) :: r, m, h => by
    unfold bindC
    rw [bindC_out fun w hw => h w (List.mem_cons_of_mem _ hw)]
    split
    · rfl
    · have : x ≠ n := by rintro rfl; exact h v List.mem_cons_self
      simp [this]
theorem bindL_get {kindOf : Str → Option NameKind} {x : Str} {v : Value} : ∀ {P : List Str} {vs : List Value} {i : Nat} {m : Str → Option Value}, P.Nodup → P[i]? = some x → vs[i]? = some v → kindOf x = some .local →
    bindL kindOf (P.zip vs) m x = some v
  | [], _, _, _, _, h, _, _ => by simp at h
  | _ :: _, [], _, _, _, _, h, _ => by simp at h
  | p :: P, w :: vs, 0, m, nd, h1, h2, hk => by
    simp at h1 h2; subst h1; subst h2
    show bindL kindOf ((p, w) :: P.zip vs) m p = _
    unfold bindL
    rw [bindL_out fun v hv => (List.nodup_cons.mp nd).1 (List.of_mem_zip hv).1, if_pos hk]
    simp
  | p :: P, w :: vs, i + 1, m, nd, h1, h2, hk => by
    show bindL kindOf ((p, w) :: P.zip vs) m x = _
    unfold bindL
    exact bindL_get (i := i) (List.nodup_cons.mp nd).2 (by simpa using h1) (by simpa using h2) hk
theorem bindC_get {kindOf : Str → Option NameKind} {x : Str} {v : Value} : ∀ {P : List Str} {vs : List Value} {i : Nat} {m : Str → Option Value}, P.Nodup → P[i]? = some x → vs[i]? = some v → kindOf x ≠ some .local →
    bindC kindOf (P.zip vs) m x = some v
  | [], _, _, _, _, h, _, _ => by simp at h
  | _ :: _, [], _, _, _, _, h, _ => by simp at h
  | p :: P, w :: vs, 0, m, nd, h1, h2, hk => by
    simp at h1 h2; subst h1; subst h2
    show bindC kindOf ((p, w) :: P.zip vs) m p = _
    unfold bindC
    rw [bindC_out fun v hv => (List.nodup_cons.mp nd).1 (List.of_mem_zip hv).1, if_neg hk]
    simp
  | p :: P, w :: vs, i + 1, m, nd, h1, h2, hk => by
    show bindC kindOf ((p, w) :: P.zip vs) m x = _
    unfold bindC
    exact bindC_get (i := i) (List.nodup_cons.mp nd).2 (by simpa using h1) (by simpa using h2) hk

noncomputable def start (N : List Str) (vs : List V) : St := vs.map some ++ List.replicate (N.length - vs.length) none

noncomputable def cxOf (CX : CXT) (P : Program) (w : World) (K : PySem.W.Frag) (mg : Str → Option Value) (base : Heap) (N : List Str) (qual : Str) (scope : Scope) (f : Addr) (cd : Value) (A : Around) (outer : List Env) (s : Shared) (H : Hp) (E : XK) : Cx where
  prog := P
  w := w
  K := K
  mg := mg
  base := base
  A := A.deeper (envOfC qual scope s.heap.objs.size f cd)
  N := N
  s₀ := s
  H₀ := H
  env := envOfC qual scope s.heap.objs.size f cd
  outer := outer
  stack := envOfC qual scope s.heap.objs.size f cd :: outer
  ex := []
  calm := true
  fn := fun _ => true
  pn := []
  xe := fun e s' => wpAny (model P w) (A.deeper (envOfC qual scope s.heap.objs.size f cd)) (leaving (envOfC qual scope s.heap.objs.size f cd) e) (fun _ s'' => CX outer H s E e s'') (fun e' s'' => CX outer H s E e' s'') s'

theorem cell_has {sc : Scope} {n : Nat} {x : Str} (h : sc.names.lookup x = some .cell) : ∃ c, (cellsFrom n sc.names []).lookup x = some c := by
  have q := PySem.W.cellsFrom_some sc.names n [] (.inl h)
  exact Option.isSome_iff_exists.mp q

theorem inv_start {CX : CXT} {P : Program} {w : World} {K : PySem.W.Frag} {mg : Str → Option Value} {base : Heap} {N ps : List Str} {qual : Str} {scope : Scope} {f : Addr} {cd : Value} {A : Around} {outer : List Env} {s s1 : Shared} {H : Hp} {E : XK} {us : List Value} {vs : List V}
    (S : FnScope N ps scope) (hd : A.handled = none) (e0 : Env0 P w K mg base A outer s H) (hl : vs.length = ps.length) (r : Vals vs us)
    (x : InCallC s s.heap.objs.size (bindL (envOfC qual scope s.heap.objs.size f cd).kindOf (ps.zip us) fun _ => none) (cellsFrom (s.heap.objs.size + 1) scope.names []) (bindC (envOfC qual scope s.heap.objs.size f cd).kindOf (ps.zip us) fun _ => none) s1) :
    Inv (cxOf CX P w K mg base N qual scope f cd A outer s H E) [] (start N vs) H s1 := by
  have hpl : ps.length ≤ N.length := by have := congrArg List.length S.pre; rw [List.length_take] at this; omega
  obtain ⟨h1, tk, rfl, hk⟩ := x.done
  have noA : ∀ b : Addr, b ∉ (cxOf CX P w K mg base N qual scope f cd A outer s H E).ex := fun b z => absurd (show b ∈ ([] : List Addr) from z) (by simp)
  refine ⟨⟨e0.mod, S.kind, rfl, rfl, Nat.le_refl _, fun y z c h1 h2 => ?_, fun y hy => ?_, fun y c _ h => ?_, fun _ => hd, Around.frames_deeper e0.frames, .inr ⟨rfl, rfl⟩, fun b z => absurd z (noA b), e0.bs, e0.bsz, fun b _ _ => noA b, fun b z => absurd z (noA b), e0.funs, e0.frf⟩,
    rfl, e0.bare, Un.kept hk, ⟨_, x.toInCall.ns, fun i y v h1 h2 h3 => ?_⟩, fun y c h => ⟨_, x.cell y c h⟩, e0.hok.fresh (Nat.le_refl _), fun y c h => ?_, fun p hp => absurd (show p ∈ ([] : List (Addr × Obj)) from hp) (by simp), e0.hok.kept hk, ?_⟩
  · exact name_of_addr x.apart (PySem.mem_of_lookup h1) (PySem.mem_of_lookup h2)
  · have hy : scope.names.lookup y = some .cell ∨ scope.names.lookup y = some .free := hy
    rcases hy with hy | hy
    · exact cell_has hy
    · exact absurd rfl (S.nofree _ (PySem.mem_of_lookup hy))
  · exact Nat.le_of_lt (x.above y c (PySem.mem_of_lookup h))
  · have hi : i < vs.length := by
      unfold start at h2
      by_cases hi : i < vs.length
      · exact hi
      · rw [List.getElem?_append_right (by simpa using hi)] at h2
        rw [List.getElem?_replicate] at h2
        split at h2 <;> cases h2
    have ha : vs[i]? = some v := by
      unfold start at h2
      rw [List.getElem?_append_left (by simpa using hi), List.getElem?_map] at h2
      cases e : vs[i]? with
      | none => rw [e] at h2; cases h2
      | some a => rw [e] at h2; cases h2; rfl
    obtain ⟨u, hu, rv⟩ := r.get ha
    have hp : ps[i]? = some y := by
      rw [← S.pre, List.getElem?_take_of_lt (by omega)]; exact h1
    have ndP : ps.Nodup := by rw [← S.pre]; exact S.nd.sublist (List.take_sublist _ _)
    refine ⟨u, rv, ?_⟩
    rcases S.par y (List.mem_of_getElem? hp) with k | k
    · exact .inl ⟨k, bindL_get ndP hp hu k⟩
    · obtain ⟨c, e⟩ := cell_has (n := s.heap.objs.size + 1) k
      refine .inr ⟨.inl k, c, e, ?_⟩
      have q := x.cell y c e
      rw [bindC_get ndP hp hu (by show scope.names.lookup y ≠ _; rw [k]; decide)] at q
      exact q
  · exact e0.hok.fresh (Nat.le_of_lt (x.above y c (PySem.mem_of_lookup h)))
  · unfold start
    show _ = N.length
    rw [List.length_append, List.length_map, List.length_replicate]
    omega

theorem fn_of {CX : CXT} {P : Program} {w : World} {K : PySem.W.Frag} {mg : Str → Option Value} {base : Heap} {k : Nat} {f : Addr} {name qual : Str} {params : Arguments} {body : List Stmt} {scope : Scope} {dV kV doc pm cdv ct oc : Value} {an od : Option Addr}
    {osl : Array (Option Value)} {N ps : List Str} {sp : Sp} (lk : K.lookup f = some ⟨oc, od, .func (PySem.W.fnOf name qual params body scope dV kV doc pm an cdv ct), osl⟩) (hcd : PySem.W.codeIn K cdv qual = true) (S : FnScope N ps scope)
    (len : ∀ vs H Q E, sp vs H Q E → vs.length = ps.length)
    (hbody : ∀ (A : Around) (outer : List Env) (s : Shared) (H : Hp) (vs : List V) (Q : VK) (E : XK), Room k (A.deeper (envOfC qual scope s.heap.objs.size f cdv)) → sp vs H Q E →
      ∃ t, PSs (cxOf CX P w K mg base N qual scope f cdv A outer s H E) body t ∧ t { nx := fun _ H' => Q .non H', rt := Q } (start N vs) H) :
    FnOk P w K mg base CX (k + 1) f (PySem.W.fnOf name qual params body scope dV kV doc pm an cdv ct) ps sp := by
  refine ⟨len, fun A outer s H args us vs Q E hr e0 hb r hsp => ?_⟩
  have hl := len _ _ _ _ hsp
  have KX : K.In s.heap := e0.mod.kin.keeps fun b o e => (e0.bs b o e).1
  have lim : s.heap.NoLimit := e0.mod.nolimit.keeps fun b o e => (e0.bs b o e).1
  have hkind : ∀ y ∈ ps.zip us, scope.names.lookup y.1 = some .local ∨ (scope.names.lookup y.1 = some .cell ∧ ((cellsFrom (s.heap.objs.size + 1) scope.names []).lookup y.1).isSome = true) := fun ⟨n, v⟩ hy => by
    rcases S.par n (List.of_mem_zip hy).1 with q | q
    · exact .inl q
    · exact .inr ⟨q, PySem.W.cellsFrom_some _ _ _ (.inl q)⟩
  refine codeAny_call_function hr.depth (KX _ _ lk) rfl S.co S.gen rfl (PySem.W.codeRec_of KX hcd) (hb _ _ _ _ ?_)
  refine wpAny_newFunctionEnv_cells S.kind hkind fun env he s1 x => ?_
  subst he
  refine ⟨lim.keeps x.toInCall.keep, codeAny_func ?_⟩
  obtain ⟨t, ht, hq⟩ := hbody A outer s H vs Q E (hr.deeper _) hsp
  have I : Inv (cxOf CX P w K mg base N qual scope f cdv A outer s H E) [] (start N vs) H s1 := inv_start S hr.hd e0 hl r x
  refine wpAny_mono (ht [] s1 (start N vs) H _ I hq) (fun fl s' hs => ?_) fun e s' hs => hs
  have fin : ∀ {σ' : St} {H' : Hp} {v : V} {u : Value}, Inv (cxOf CX P w K mg base N qual scope f cdv A outer s H E) [] σ' H' s' → RelV v u → Q v H' → CE outer P w H s Q u s' :=
    fun {σ' H' v u} J rv q => ⟨v, H', J.os, J.bare, J.base, J.hok, rv, q⟩
  cases fl with
  | ret u =>
    obtain ⟨v, σ', H', J, rv, q⟩ := hs
    exact fin J rv q
  | next =>
    obtain ⟨σ', H', J, q⟩ := hs
    exact fin (v := V.non) (u := Value.none) J rfl q
  | brk =>
    obtain ⟨_, _, _, q⟩ := hs
    exact False.elim q
  | cont =>
    obtain ⟨_, _, _, q⟩ := hs
    exact False.elim q
end L2
namespace L2
open PySem PySem.Spec PyProof.Rows
section
variable {X : Cx} {x : Str} {p pos : Pos} {e : Expr} {es : List Expr} {t : TA} {id T : String} {r : List V → Hp → VK → Prop}
def tCB (r : List V → Hp → VK → Prop) (t : TA) : TE := fun σ H Q => t σ H fun vs H1 => r vs H1 Q
theorem pe_callB (hc : CallR X (.builtin id) r) (hg : Gl X x) (hm : X.mg x = none) (hv : bootBuiltins x = some (.builtin id)) (ha : PA X (e :: es) t) (hn : x ≠ "__name__" := by decide) (hdb : (x == ("__debug__" : Str)) = false := by decide)
    (he : starEach (e :: es) X.env = (false, eval e X.env) :: starEach es X.env := by rfl) (hpl : (backTo pos (starEach es X.env)).any (·.1) = false := by rfl) : PE X (.Call (.Name x p) (e :: es) [] pos) (tCB r t) := by
  intro pins s σ H Q I h
  refine wpAny_Call_Name_kw (ld_blt I hg hm hv ?_ hn hdb)
  exact PyProof.Rows.callWith_builtin1 (thn (ha pos pins s σ H _ I h) (by rintro us s1 ⟨vs, H1, I1, r1, q1⟩; exact hc pins s1 σ H1 vs us Q I1 r1 q1)) he hpl
theorem pe_callTy (hc : CallR X (.type T) r) (hg : Gl X x) (hm : X.mg x = none) (hv : bootBuiltins x = some (.type T)) (ha : PA X (e :: es) t) (hn : x ≠ "__name__" := by decide) (hdb : (x == ("__debug__" : Str)) = false := by decide)
    (he : starEach (e :: es) X.env = (false, eval e X.env) :: starEach es X.env := by rfl) (hpl : (backTo pos (starEach es X.env)).any (·.1) = false := by rfl) : PE X (.Call (.Name x p) (e :: es) [] pos) (tCB r t) := by
  intro pins s σ H Q I h
  refine wpAny_Call_Name_kw (ld_blt I hg hm hv ?_ hn hdb)
  exact PyProof.Rows.callWith_type1 (thn (ha pos pins s σ H _ I h) (by rintro us s1 ⟨vs, H1, I1, r1, q1⟩; exact hc pins s1 σ H1 vs us Q I1 r1 q1)) he hpl
end
end L2
namespace HT
open PySem PyProof.Rows
section
variable {prog : Program} {w : World} {A : Around} {E : Value → Shared → Prop} {s : Shared}
theorem cat_tup {t b : Addr} {vs ws : List Value} {Q : Value → Shared → Prop} (ht : IsTup s.heap t vs.toArray) (hb : IsTup s.heap b ws.toArray) (hv : vs ≠ [])
    (h1 : ws = [] → Q (.ref t) s) (h2 : ws ≠ [] → Q (.ref s.heap.objs.size) { s with heap := s.heap.push { cls := .type "tuple", data := .seq (vs ++ ws).toArray } })
    (hsz : vs.length + ws.length ≤ sizeLine) : wpAny (model prog w) A (binaryOp .Add (.ref t) (.ref b)) Q E s := by
  obtain ⟨⟨cls, dd, data, sl⟩, ho, hc, n, hd⟩ := id ht
  obtain ⟨⟨cls2, dd2, data2, sl2⟩, ho2, hc2, n2, hd2⟩ := id hb
  simp only at hc hd hc2 hd2
  subst hc hd hc2 hd2
  have e : vs.toArray ++ ws.toArray = (vs ++ ws).toArray := by simp
  by_cases hw : ws = []
  · exact concat_meets ⟨_, ho, rfl⟩ ⟨_, ho2, rfl⟩ noFill_tuple_add seq_tuple_add PySem.F.slot_tuple_add PySem.F.entry_tuple_add (PySem.F.args_tuple_add_2 _ _)
      (tuple_addW1 t b vs.toArray ws.toArray n n2 dd dd2 sl sl2 (by simpa using hv) (by simp [hw])) ⟨ho, ho2, h1 hw⟩
  · refine concat_meets ⟨_, ho, rfl⟩ ⟨_, ho2, rfl⟩ noFill_tuple_add seq_tuple_add PySem.F.slot_tuple_add PySem.F.entry_tuple_add (PySem.F.args_tuple_add_2 _ _)
      (tuple_addW2 t b vs.toArray ws.toArray n n2 dd dd2 sl sl2 (by simpa using hv) (by simpa using hw) (by rw [List.size_toArray, List.size_toArray]; exact hsz)) ⟨ho, ho2, ?_⟩
    rw [e]
    exact h2 hw

noncomputable def sIx (n d : Nat) : Option Int → Nat
  | none => d
  | some v => if v < 0 then (v + (n : Int)).toNat else min v.toNat n
theorem sIx_none (n d : Nat) : sIx n d none = d := rfl
theorem sIx_nat (n d k : Nat) : sIx n d (some (k : Int)) = min k n := by
  show (if (k : Int) < 0 then ((k : Int) + (n : Int)).toNat else min (k : Int).toNat n) = min k n
  rw [if_neg (by omega), Int.toNat_natCast]
theorem sIx_le (n d : Nat) (hd : d ≤ n) (o : Option Int) : sIx n d o ≤ n := by
  cases o with
  | none => exact hd
  | some v =>
    show (if v < 0 then (v + (n : Int)).toNat else min v.toNat n) ≤ n
    by_cases hv : v < 0
    · rw [if_pos hv]; omega
    · rw [if_neg hv]; exact Nat.min_le_right _ _
theorem clip_eq (v : Int) (n d : Nat) : (if v < 0 then max (v + (n : Int)) 0 else min v (n : Int)) = ((sIx n d (some v) : Nat) : Int) := by
  show (if v < 0 then max (v + (n : Int)) 0 else min v (n : Int)) = (((if v < 0 then (v + (n : Int)).toNat else min v.toNat n) : Nat) : Int)
  by_cases hv : v < 0
  · simp only [if_pos hv]; omega
  · simp only [if_neg hv]; omega
theorem adjust_gen (lo hi : Option Int) (n : Nat) : Builtin.Slice.sliceAdjust lo hi 1 (n : Int) = (((sIx n 0 lo : Nat) : Int), ((sIx n n hi : Nat) : Int)) := by
  have h1 : ¬ ((1 : Int) < 0) := by omega
  unfold Builtin.Slice.sliceAdjust
  simp only [h1, if_false]
  refine Prod.ext ?_ ?_
  · cases lo with
    | none => rfl
    | some v => exact clip_eq v n 0
  · cases hi with
    | none => rfl
    | some v => exact clip_eq v n n
theorem places_gen (i j : Nat) : Builtin.Slice.slicePlaces (i : Int) (j : Int) 1 = j - i := by
  unfold Builtin.Slice.slicePlaces
  have h1 : (1 : Int) > 0 := by omega
  simp only [h1, if_true, Int.ediv_one]
  split <;> omega
theorem slicePart_ {v : Value} {o : Option Int} {Q : Option Int → Shared → Prop} (p : IsPart v o) (h : Q o s) : wpAny (model prog w) A (Builtin.Slice.slicePartIndex v) Q E s := by
  cases p with
  | none => exact slicePart_none h
  | int i t => exact slicePart_int h
theorem sliceApplied_gen {sl : Addr} {vl vu : Value} {lo hi : Option Int} {n : Nat} {Q : Int × Int × Nat → Shared → Prop} (hs : s.heap.IsSliceOf sl vl vu .none) (pl : IsPart vl lo) (pu : IsPart vu hi)
    (h : Q (((sIx n 0 lo : Nat) : Int), 1, sIx n n hi - sIx n 0 lo) s) : wpAny (model prog w) A (Builtin.Slice.sliceApplied (.ref sl) (pure (n : Int))) Q E s := by
  obtain ⟨os, hos, hcs, hds⟩ := id hs
  unfold Builtin.Slice.sliceApplied Builtin.Slice.sliceFields
  refine wpAny_bind (wpAny_bind (wpAny_field hos hds (x := vl) rfl (wpAny_bind (wpAny_field hos hds (x := vu) rfl (wpAny_bind (wpAny_field hos hds (x := .none) rfl (wpAny_pure ?_)))))))
  refine wpAny_bind (slicePart_none ?_)
  show wpAny _ _ (if ((1 : Int) == 0) = true then _ else _) _ _ s
  rw [if_neg (by decide)]
  refine wpAny_bind (slicePart_ pl (wpAny_bind (slicePart_ pu (wpAny_bind (wpAny_pure ?_)))))
  show wpAny _ _ (match Builtin.Slice.sliceAdjust lo hi 1 (n : Int) with | (lo, hi) => pure (lo, (1 : Int), Builtin.Slice.slicePlaces lo hi 1)) _ _ s
  rw [adjust_gen lo hi n]
  show wpAny _ _ (pure (((sIx n 0 lo : Nat) : Int), (1 : Int), Builtin.Slice.slicePlaces ((sIx n 0 lo : Nat) : Int) ((sIx n n hi : Nat) : Int) 1)) _ _ s
  rw [places_gen]
  exact wpAny_pure h
theorem pick_gen (xs : Array Value) (i k : Nat) : ((List.range k).filterMap fun (m : Nat) => xs[((i : Int) + (m : Int) * 1).toNat]?).toArray = ((xs.toList.drop i).take k).toArray := by
  have e : (fun (m : Nat) => xs[((i : Int) + (m : Int) * 1).toNat]?) = fun m => xs[i + m]? := by
    funext m
    have : ((i : Int) + (m : Int) * 1).toNat = i + m := by omega
    rw [this]
  rw [e]
  have := pick_run xs i k
  rw [List.filterMap_map] at this
  have e2 : ((fun x => xs[x]?) ∘ fun x => i + x) = fun m => xs[i + m]? := rfl
  rw [e2] at this
  rw [this]

theorem getItem_tuple_cut {t sl : Addr} {items : Array Value} {vl vu : Value} {lo hi : Option Int} {Q : Value → Shared → Prop} (ht : IsTup s.heap t items) (hs : s.heap.IsSliceOf sl vl vu .none) (pl : IsPart vl lo) (pu : IsPart vu hi)
    (hw : ¬ (sIx items.size 0 lo = 0 ∧ sIx items.size items.size hi = items.size))
    (h : Q (.ref s.heap.objs.size) { s with heap := s.heap.push { cls := .type "tuple", data := .seq ((items.toList.drop (sIx items.size 0 lo)).take (sIx items.size items.size hi - sIx items.size 0 lo)).toArray } })
    (hsz : items.size ≤ sizeLine) : wpAny (model prog w) A (getItem (.ref t) (.ref sl)) Q E s := by
  have htake : sizeOk (.seq ((items.toList.drop (sIx items.size 0 lo)).take (sIx items.size items.size hi - sIx items.size 0 lo)).toArray) := by
    show ((items.toList.drop (sIx items.size 0 lo)).take (sIx items.size items.size hi - sIx items.size 0 lo)).toArray.size ≤ sizeLine
    rw [List.size_toArray, List.length_take, List.length_drop, Array.length_toList]
    omega
  have hj : sIx items.size items.size hi ≤ items.size := sIx_le _ _ (Nat.le_refl _) hi
  obtain ⟨os, hos, hcs, hds⟩ := id hs
  have hTs : s.TypeIs (.ref sl) "slice" := ⟨os, hos, hcs⟩
  unfold getItem
  try with_reducible refine wpAny_holding ?_
  first | refine wpAny_bind (wpAny_pure ?_) | skip
  refine wpAny_bind (wpAny_sequenceKey ht.typeIs (by decide) ?_)
  refine wpAny_bind (wpAny_callSpecial?_slot (name := Str.ofString "__getitem__") ht.typeIs PyProof.Rows.slot_tuple_getitem
    (wpAny_call_entry PyProof.Rows.slot_tuple_getitem ht.typeIs entry_tuple_getitem ?_ (args_tuple_getitem _ _)))
  show wpAny _ _ (Builtin.Tuple.tupleItemsOf (.ref t) >>= _) _ _ s
  refine wpAny_bind (tupleItemsOf_ ht ?_)
  refine wpAny_bind (wpAny_typeOf hTs ?_)
  rw [if_pos (by decide)]
  refine wpAny_bind (sliceApplied_gen hs pl pu ?_)
  have hno : ¬ ((((sIx items.size 0 lo : Nat) : Int) == 0 && (1 : Int) == 1 && (sIx items.size items.size hi - sIx items.size 0 lo) == items.size) = true) := by
    intro q
    rw [Bool.and_eq_true, Bool.and_eq_true] at q
    have q1 : ((sIx items.size 0 lo : Nat) : Int) = 0 := eq_of_beq q.1.1
    have q2 : sIx items.size items.size hi - sIx items.size 0 lo = items.size := eq_of_beq q.2
    exact hw ⟨by omega, by omega⟩
  show wpAny _ _ (if (((sIx items.size 0 lo : Nat) : Int) == 0 && (1 : Int) == 1 && (sIx items.size items.size hi - sIx items.size 0 lo) == items.size) = true then _ else _) _ _ s
  rw [if_neg hno, pick_gen]
  first
    | exact wpAny_bind (m := Builtin.Tuple.tupleExact _) (wpAny_newObj_type (wpAny_pure ⟨_, rfl, wpAny_pure h⟩) htake)
    | exact wpAny_bind (m := Builtin.Tuple.tupleExact _) (wpAny_newObj_type (wpAny_bind (wpAny_pure (wpAny_pure ⟨_, rfl, wpAny_pure h⟩))) htake)
    | exact wpAny_bind (wpAny_bind (m := Builtin.Tuple.tupleExact _) (wpAny_newObj_type (wpAny_pure (wpAny_pure ⟨_, rfl, wpAny_pure h⟩)) htake))
    | exact wpAny_bind (wpAny_bind (m := Builtin.Tuple.tupleExact _) (wpAny_newObj_type (wpAny_pure ⟨_, rfl, wpAny_pure h⟩) htake))
end
end HT
namespace L2
open PySem PySem.Spec PyProof.Rows
abbrev TO := St → Hp → (Option Int → Hp → Prop) → Prop
def PO (X : Cx) (e : Option Expr) (t : TO) : Prop :=
  ∀ (pins : List (Addr × Obj)) (s : Shared) (σ : St) (H : Hp) (Q : Option Int → Hp → Prop), Inv X pins σ H s → t σ H Q →
    wpAny (model X.prog X.w) X.A (evalPart e X.env) (fun u s' => ∃ o H', Inv X pins σ H' s' ∧ IsPart u o ∧ Q o H') X.xe s
noncomputable def tNoPart : TO := fun _ H Q => Q none H
noncomputable def tPart (t : TE) : TO := fun σ H Q => t σ H fun x H1 => ∃ i, x = .int i ∧ Q (some i) H1

section
variable {X : Cx} {e : Expr} {te : TE} {lo hi : Option Expr} {tl th : TO} {pos p2 : Pos}
theorem po_none : PO X none tNoPart := by
  intro pins s σ H Q I h
  rw [evalPart_none]
  exact wpAny_pure ⟨none, H, I, .none, h⟩
theorem po_some (h : PE X e te) : PO X (some e) (tPart te) := by
  intro pins s σ H Q I hw
  rw [evalPart_some]
  refine thn (h pins s σ H _ I hw) ?_
  rintro u s1 ⟨x, H1, I1, r1, q1⟩
  obtain ⟨i, rfl, q⟩ := q1
  obtain ⟨t, rfl⟩ := r1
  exact ⟨some i, H1, I1, .int i t, q⟩

def SlR (X : Cx) (r : V → Option Int → Option Int → Hp → VK → Prop) : Prop :=
  ∀ (pins : List (Addr × Obj)) (s : Shared) (σ : St) (H : Hp) (x : V) (v vl vu : Value) (lo hi : Option Int) (sl : Addr) (Q : VK), Inv X pins σ H s → RelV x v → s.heap.IsSliceOf sl vl vu .none → IsPart vl lo → IsPart vu hi → r x lo hi H Q →
    ∃ T id, typeLookup (.type T) "__getitem__" = pure (some (.builtin id)) ∧ s.TypeIs v T ∧ wpAny (model X.prog X.w) X.A (getItem v (.ref sl)) (EP X pins σ Q) X.xe s
theorem SlR.or {r r' : V → Option Int → Option Int → Hp → VK → Prop} (h : SlR X r) (h' : SlR X r') : SlR X (fun x lo hi H Q => r x lo hi H Q ∨ r' x lo hi H Q) := by
  intro pins s σ H x v vl vu lo hi sl Q I rx hs pl pu q
  rcases q with q | q
  · exact h pins s σ H x v vl vu lo hi sl Q I rx hs pl pu q
  · exact h' pins s σ H x v vl vu lo hi sl Q I rx hs pl pu q
def tSl (r : V → Option Int → Option Int → Hp → VK → Prop) (te : TE) (tl th : TO) : TE := fun σ H Q => te σ H fun x H1 => tl σ H1 fun l H2 => th σ H2 fun u H3 => r x l u H3 Q
theorem pe_slice {r : V → Option Int → Option Int → Hp → VK → Prop} (hr : SlR X r) (he : PE X e te) (hl : PO X lo tl) (hu : PO X hi th) : PE X (.Subscript e (.Slice lo hi none p2) pos) (tSl r te tl th) := by
  intro pins s σ H Q I h
  refine Subscript_ (thn (he pins s σ H _ I h) ?_)
  rintro v s1 ⟨x, H1, I1, r1, q1⟩
  refine wpAny_Slice (thn (hl pins s1 σ H1 _ I1 q1) fun vl s2 ⟨l, H2, I2, pl, q2⟩ => thn (hu pins s2 σ H2 _ I2 q2) fun vu s3 ⟨u, H3, I3, pu, q3⟩ => ?_)
  rw [evalPart_none]
  refine wpAny_pure ?_
  have I4 : Inv X pins σ H3 { s3 with heap := s3.heap.push { cls := .type "slice", data := .fields #[vl, vu, .none] } } := I3.kept (t' := s3.toks) fun b ob q => Heap.get?_push_of_some _ q
  obtain ⟨T, id, hT, ht, hg⟩ := hr pins { s3 with heap := s3.heap.push { cls := .type "slice", data := .fields #[vl, vu, .none] } } σ H3 x v vl vu l u s3.heap.objs.size Q I4 r1 (Heap.IsSliceOf.new ..) pl pu q3
  show wpAny (model X.prog X.w) X.A (subscriptTail e (.Slice lo hi none p2) v (.ref s3.heap.objs.size)) (EP X pins σ Q) X.xe { s3 with heap := s3.heap.push { cls := .type "slice", data := .fields #[vl, vu, .none] } }
  exact tail_any (ops := [.ref s3.heap.objs.size, v]) ht hT hg (by with_unfolding_all rfl)

noncomputable def cutV (xs : List V) (lo hi : Option Int) : List V := (xs.drop (HT.sIx xs.length 0 lo)).take (HT.sIx xs.length xs.length hi - HT.sIx xs.length 0 lo)
theorem cutV_length (xs : List V) (lo hi : Option Int) : (cutV xs lo hi).length ≤ xs.length := by
  unfold cutV
  rw [List.length_take, List.length_drop]
  omega
def rSlT (K : PySem.W.Frag) : V → Option Int → Option Int → Hp → VK → Prop := fun x lo hi H Q => ∃ a xs, x = .ref a ∧ SqT K H a xs ∧
  ¬ (HT.sIx xs.length 0 lo = 0 ∧ HT.sIx xs.length xs.length hi = xs.length) ∧ ∀ p, H p = none → Q (.ref p) (upd H p (.tup (cutV xs lo hi)))
theorem sl_tup : SlR X (rSlT X.K) := by
  intro pins s σ H x v vl vu lo hi sl Q I rx hs pl pu h
  obtain ⟨a, xs, rfl, hx, hw, q⟩ := h
  cases rx
  obtain ⟨its, r, ht, hz⟩ := I.tuple hx
  have hlen : its.toArray.size = xs.length := by rw [List.size_toArray]; exact r.length.symm
  refine ⟨"tuple", _, PyProof.Rows.slot_tuple_getitem.lookup, ht.typeIs, ?_⟩
  refine HT.getItem_tuple_cut ht hs pl pu (by rw [hlen]; exact hw) ?_ (by rw [hlen]; exact hz)
  rw [hlen]
  refine ⟨.ref s.heap.objs.size, _, I.laid (t' := s.toks) (o := .tup (cutV xs lo hi)) (fun b ob q => Heap.get?_push_of_some _ q) (Nat.le_refl _) ?_, rfl, q _ (I.hok.fresh (Nat.le_refl _))⟩
  exact ⟨Nat.le_trans (cutV_length xs lo hi) hz, _, (r.drop (HT.sIx xs.length 0 lo)).take (HT.sIx xs.length xs.length hi - HT.sIx xs.length 0 lo), IsTup.new _ _⟩

def rCatT (K : PySem.W.Frag) : R2 := fun x y H Q => ∃ a b xs ys, x = .ref a ∧ y = .ref b ∧ SqT K H a xs ∧ SqT K H b ys ∧ xs ≠ [] ∧ xs.length + ys.length ≤ sizeLine ∧
  (ys = [] → Q (.ref a) H) ∧ (ys ≠ [] → ∀ p, H p = none → Q (.ref p) (upd H p (.tup (xs ++ ys))))
theorem Vals.nil_iff {xs : List V} {us : List Value} (r : Vals xs us) : us = [] ↔ xs = [] := by
  cases r with
  | nil => simp
  | cons _ _ => simp
theorem op_catT : OpR X (binaryOp .Add) (rCatT X.K) := by
  intro pins s σ H x y v u Q I rx ry h
  obtain ⟨a, b, xs, ys, rfl, rfl, ha, hb, hx, hz, q1, q2⟩ := h
  cases rx
  cases ry
  obtain ⟨its, r1, p1, _⟩ := I.tuple ha
  obtain ⟨its2, r2, p2, _⟩ := I.tuple hb
  refine HT.cat_tup p1 p2 (fun z => hx (r1.nil_iff.mp z)) (fun z => ⟨.ref a, H, I, rfl, q1 (r2.nil_iff.mp z)⟩) (fun z => ?_) (by rw [← r1.length, ← r2.length]; exact hz)
  refine ⟨.ref s.heap.objs.size, _, I.laid (t' := s.toks) (o := .tup (xs ++ ys)) (fun b ob q => Heap.get?_push_of_some _ q) (Nat.le_refl _) ?_, rfl, q2 (fun w => z (r2.nil_iff.mpr w)) _ (I.hok.fresh (Nat.le_refl _))⟩
  exact ⟨by rw [List.length_append]; exact hz, _, r1.append r2, IsTup.new _ _⟩
end
end L2
namespace L2
open PySem PySem.Spec PyProof.Rows
noncomputable def ixN (n : Nat) (i : Int) : Option Nat := if 0 ≤ i then (if i < n then some i.toNat else none) else if -(n : Int) ≤ i then some (i + n).toNat else none
noncomputable def atI {α : Type} (xs : List α) (i : Int) : Option α := (ixN xs.length i).bind fun j => xs[j]?
theorem ixN_seq {n : Nat} {i : Int} {j : Nat} (h : ixN n i = some j) : seqIndex? i n = some j ∧ j < n ∧ -(n : Int) ≤ i ∧ i < n := by
  unfold ixN at h
  by_cases h0 : 0 ≤ i
  · rw [if_pos h0] at h
    by_cases h1 : i < n
    · rw [if_pos h1] at h
      have e : i.toNat = j := Option.some.inj h
      exact ⟨by rw [seqIndex_of h0 h1, e], by omega, by omega, h1⟩
    · rw [if_neg h1] at h; cases h
  · rw [if_neg h0] at h
    by_cases h1 : -(n : Int) ≤ i
    · rw [if_pos h1] at h
      have e : (i + n).toNat = j := Option.some.inj h
      exact ⟨by rw [seqIndex_neg (by omega) h1, e], by omega, h1, by omega⟩
    · rw [if_neg h1] at h; cases h
theorem atI_get {α : Type} {xs : List α} {i : Int} {v : α} (h : atI xs i = some v) : ∃ j, seqIndex? i xs.length = some j ∧ xs[j]? = some v ∧ j < xs.length ∧ -(xs.length : Int) ≤ i ∧ i < xs.length := by
  unfold atI at h
  cases e : ixN xs.length i with
  | none => rw [e] at h; cases h
  | some j =>
    rw [e] at h
    obtain ⟨h1, h2, h3, h4⟩ := ixN_seq e
    exact ⟨j, h1, h, h2, h3, h4⟩
theorem atI_nat {α : Type} {xs : List α} {j : Nat} {v : α} (h : xs[j]? = some v) : atI xs (j : Int) = some v := by
  have hj : j < xs.length := (List.getElem?_eq_some_iff.mp h).1
  have e : ixN xs.length (j : Int) = some j := by
    unfold ixN
    rw [if_pos (by omega), if_pos (by omega)]; simp
  unfold atI; rw [e]; exact h
def PlainIx (b : Expr) : Prop := ∀ o i, subscripted b false o i = operate [o, i] (getItem o i)
def IxR (X : Cx) (r : R2) : Prop :=
  ∀ (value slice : Expr) (pins : List (Addr × Obj)) (s : Shared) (σ : St) (H : Hp) (x y : V) (v u : Value) (Q : VK), Inv X pins σ H s → RelV x v → RelV y u → r x y H Q →
    subscripted slice false v u = operate [v, u] (getItem v u) → wpAny (model X.prog X.w) X.A (subscriptTail value slice v u) (EP X pins σ Q) X.xe s
def MtR (X : Cx) (id : String) (r : V → List V → Hp → VK → Prop) : Prop :=
  ∀ (pins : List (Addr × Obj)) (s : Shared) (σ : St) (H : Hp) (x : V) (xs : List V) (v : Value) (us : List Value) (Q : VK), Inv X pins σ H s → RelV x v → Vals xs us → r x xs H Q →
    wpAny (model X.prog X.w) X.A (call (.builtin id) (v :: us)) (EP X pins σ Q) X.xe s
section
variable {X : Cx} {a b : Expr} {ta tb : TE} {pos : Pos}
theorem IxR.or {r r' : R2} (h : IxR X r) (h' : IxR X r') : IxR X (fun x y H Q => r x y H Q ∨ r' x y H Q) := by
  intro value slice pins s σ H x y v u Q I rx ry q hs
  rcases q with q | q
  · exact h value slice pins s σ H x y v u Q I rx ry q hs
  · exact h' value slice pins s σ H x y v u Q I rx ry q hs
theorem pe_ix {r : R2} (hr : IxR X r) (ha : PE X a ta) (hb : PE X b tb) (hs : PlainIx b) : PE X (.Subscript a b pos) (tOp r ta tb) := by
  intro pins s σ H Q I h
  exact Subscript_ (binT ha hb I h fun v u s2 x y H2 I2 rx ry q => hr a b pins s2 σ H2 x y v u Q I2 rx ry q (hs _ _))

def rIxL (K : PySem.W.Frag) : R2 := fun x y H Q => ∃ p xs i v, x = .ref p ∧ y = .int i ∧ SqL K H p xs ∧ atI xs i = some v ∧ Q v H
def rIxT (K : PySem.W.Frag) : R2 := fun x y H Q => ∃ p xs i v, x = .ref p ∧ y = .int i ∧ SqT K H p xs ∧ atI xs i = some v ∧ Q v H
def rIxS : R2 := fun x y H Q => ∃ z i c, x = .str z ∧ y = .int i ∧ z.length ≤ sizeLine ∧ atI z.cps.toList i = some c ∧ Q (.str ⟨#[c]⟩) H
theorem ix_list : IxR X (rIxL X.K) := by
  intro value slice pins s σ H x y v u Q I rx ry h hs
  obtain ⟨p, xs, i, z, rfl, rfl, hq, he, q⟩ := h
  cases rx
  obtain ⟨t, rfl⟩ := ry
  obtain ⟨its, r, pl, hz⟩ := I.list hq
  obtain ⟨j, h1, h2, h3, h4, h5⟩ := atI_get he
  obtain ⟨w, ew, rw'⟩ := r.get h2
  have hl := r.length
  have hn := line63
  have fin : EP X pins σ Q w s := ⟨z, H, I, rw', q⟩
  by_cases h0 : 0 ≤ i
  · have hj : i.toNat = j := by
      rw [seqIndex_of h0 h5] at h1
      exact Option.some.inj h1
    exact item_listR pl.isList h0 (by omega) (by rw [hj]; simpa using ew) fin hs
  · have hj : (i + (its.toArray.size : Int)).toNat = j := by
      rw [seqIndex_neg (by omega) h4] at h1
      rw [List.size_toArray, ← hl]
      exact Option.some.inj h1
    exact subscriptTail_builtinR (x := w) pl.isList.typeIs slot_list_getitem.lookup
      (wpAny_getItem_list_neg (Q := fun r s' => r = w ∧ EP X pins σ Q r s') pl.isList (by omega) (by rw [List.size_toArray] <;> omega) (by omega) (by rw [hj]; simpa using ew) ⟨rfl, fin⟩) hs
theorem ix_tup : IxR X (rIxT X.K) := by
  intro value slice pins s σ H x y v u Q I rx ry h hs
  obtain ⟨p, xs, i, z, rfl, rfl, hq, he, q⟩ := h
  cases rx
  obtain ⟨t, rfl⟩ := ry
  obtain ⟨its, r, pl, hz⟩ := I.tuple hq
  obtain ⟨j, h1, h2, h3, h4, h5⟩ := atI_get he
  obtain ⟨w, ew, rw'⟩ := r.get h2
  have hl := r.length
  have hn := line63
  have fin : EP X pins σ Q w s := ⟨z, H, I, rw', q⟩
  exact subscriptTail_builtinR (x := w) pl.typeIs slot_tuple_getitem.lookup
    (getItem_tuple (j := j) (Q := fun r s' => r = w ∧ EP X pins σ Q r s') pl (by omega) (by omega) (by rw [List.size_toArray, ← hl]; exact h1) (by simpa using ew) ⟨rfl, fin⟩) hs
theorem ix_str : IxR X rIxS := by
  intro value slice pins s σ H x y v u Q I rx ry h hs
  obtain ⟨z, i, c, rfl, rfl, hz, he, q⟩ := h
  obtain ⟨t, rfl⟩ := rx
  obtain ⟨t', rfl⟩ := ry
  obtain ⟨j, h1, h2, h3, h4, h5⟩ := atI_get he
  have hl : z.cps.toList.length = z.length := by simp [Str.length]
  rw [hl] at h1 h4 h5
  have hn := line63
  exact tail_any (typeIs_str s z t) slot_str_getitem.lookup (getItem_str (c := c) (by
    have e1 : decide (i < -(2 ^ 63 : Int)) = false := decide_eq_false (by omega)
    have e2 : decide (i ≥ 2 ^ 63) = false := decide_eq_false (by omega)
    rw [e1, e2, Bool.or_false]) (by rw [h1]; simpa using h2) ⟨.str ⟨#[c]⟩, H, I.tok _, ⟨_, rfl⟩, q⟩) hs
def rIx (K : PySem.W.Frag) : R2 := fun x y H Q => rIxL K x y H Q ∨ rIxT K x y H Q ∨ rIxS x y H Q
theorem ix_seq : IxR X (rIx X.K) := ix_list.or (ix_tup.or ix_str)

theorem mapSeq_set (its : List Value) (n j : Nat) (u : Value) : Obj.mapSeq (·.setIfInBounds j u) { cls := .type "list", data := .seq its.toArray n } = { cls := .type "list", data := .seq (its.set j u).toArray n } := by
  simp [Obj.mapSeq]
theorem Inv.lst {pins : List (Addr × Obj)} {σ : St} {H : Hp} {s : Shared} {p : Addr} {xs : List V} (I : Inv X pins σ H s) (h : H p = some (.lst xs)) :
    ∃ (its : List Value) (n : Nat), Vals xs its ∧ s.heap.get? p = some { cls := .type "list", data := .seq its.toArray n } ∧ xs.length ≤ sizeLine := by
  obtain ⟨z, its, n, r, e⟩ := I.hok p _ h
  exact ⟨its, n, r, e, z⟩
theorem Inv.lstUpd {pins : List (Addr × Obj)} {σ : St} {H : Hp} {s : Shared} {p : Addr} {xs ys : List V} {its its' : List Value} {n n' : Nat} {f : Obj → Obj} (I : Inv X pins σ H s) (h : H p = some (.lst xs))
    (ho : s.heap.get? p = some { cls := .type "list", data := .seq its.toArray n }) (hf : f { cls := .type "list", data := .seq its.toArray n } = { cls := .type "list", data := .seq its'.toArray n' }) (r : Vals ys its') (hz : ys.length ≤ sizeLine) (t : Nat) :
    Inv X pins σ (upd H p (.lst ys)) { s with heap := s.heap.update p f, toks := t } := by
  have e : (s.heap.update p f).get? p = some { cls := .type "list", data := .seq its'.toArray n' } := by
    rw [Heap.get?_update_self f ho (by rw [hf] <;> rfl), hf]
  refine I.write (x := p) (e := p) (by rw [h]; trivial) (.inl rfl) (fun b u hb q => (Heap.get?_update_other _ _ (Ne.symm hb)).trans q) ⟨_, e⟩ ?_
  exact ⟨hz, its', n', r, e⟩
def rSetL : V → V → V → Hp → (Hp → Prop) → Prop := fun o i v H Q => ∃ p xs k j, o = .ref p ∧ i = .int k ∧ H p = some (.lst xs) ∧ ixN xs.length k = some j ∧ Q (upd H p (.lst (xs.set j v)))
theorem set_list : PSet X rSetL := by
  intro pins s σ H o i v ov iv u Q I ro ri rv h
  obtain ⟨p, xs, k, j, rfl, rfl, hp, hj, q⟩ := h
  cases ro
  obtain ⟨t, rfl⟩ := ri
  obtain ⟨its, n, r, ho, hz⟩ := I.lst hp
  obtain ⟨h1, h2, h3, h4⟩ := ixN_seq hj
  have hl := r.length
  have hn := line63
  have I' : Inv X pins σ (upd H p (.lst (xs.set j v))) { s with heap := s.heap.update p (Obj.mapSeq (·.setIfInBounds j u)) } :=
    I.lstUpd hp ho (mapSeq_set its n j u) (r.set rv j) (by rw [List.length_set]; exact hz) s.toks
  by_cases h0 : 0 ≤ k
  · have hk : k.toNat = j := by
      rw [seqIndex_of h0 h4] at h1
      exact Option.some.inj h1
    exact PySem.W.ki_setAt ho h0 (by omega) (by rw [List.size_toArray, ← hl]; exact h4) (by rw [hk]; exact ⟨_, I', q⟩)
  · have hk : (k + (its.toArray.size : Int)).toNat = j := by
      rw [seqIndex_neg (by omega) h3] at h1
      rw [List.size_toArray, ← hl]
      exact Option.some.inj h1
    exact PySem.W.ki_setBack ho (by omega) (by rw [List.size_toArray, ← hl]; exact h3) (by omega) (by rw [hk]; exact ⟨_, I', q⟩)

theorem slice_bounds (lo hi : Option Int) (n : Nat) : (sliceBounds lo hi none n).1 = ((HT.sIx n 0 lo : Nat) : Int) ∧ (sliceBounds lo hi none n).2.1 = ((HT.sIx n n hi : Nat) : Int) ∧ (sliceBounds lo hi none n).2.2 = 1 := by
  refine ⟨?_, ?_, rfl⟩
  · cases lo with
    | none => simp [sliceBounds, HT.sIx]
    | some i =>
      simp only [sliceBounds, HT.sIx, Option.getD_none, show (1 : Int) > 0 by decide, if_true]
      by_cases h : i < 0
      · simp only [h, if_true] <;> omega
      · simp only [h, if_false] <;> omega
  · cases hi with
    | none => simp [sliceBounds, HT.sIx]
    | some i =>
      simp only [sliceBounds, HT.sIx, Option.getD_none, show (1 : Int) > 0 by decide, if_true]
      by_cases h : i < 0
      · simp only [h, if_true] <;> omega
      · simp only [h, if_false] <;> omega
theorem slicePick_cut (its : List Value) (lo hi : Option Int) : slicePick its.toArray lo hi none = ((its.drop (HT.sIx its.length 0 lo)).take (HT.sIx its.length its.length hi - HT.sIx its.length 0 lo)).toArray := by
  obtain ⟨h1, h2, h3⟩ := slice_bounds lo hi its.toArray.size
  unfold slicePick
  rw [h1, h2, h3]
  simp only [sliceRange_one, pick_run, List.size_toArray] <;> rfl
def rSlL (K : PySem.W.Frag) : V → Option Int → Option Int → Hp → VK → Prop := fun x lo hi H Q => ∃ a xs, x = .ref a ∧ SqL K H a xs ∧ ∀ p, H p = none → Q (.ref p) (upd H p (.lst (cutV xs lo hi)))
theorem sl_list : SlR X (rSlL X.K) := by
  intro pins s σ H x v vl vu lo hi sl Q I rx hs pl pu h
  obtain ⟨a, xs, rfl, hx, q⟩ := h
  cases rx
  obtain ⟨its, r, ht, hz⟩ := I.list hx
  have hlen := r.length
  refine ⟨"list", _, slot_list_getitem.lookup, ht.isList.typeIs, ?_⟩
  refine wpAny_getItem_list_slice ht.isList hs pl pu .none (by simp) ?_ (by rw [List.size_toArray] <;> omega)
  rw [slicePick_cut, ← hlen]
  refine ⟨.ref s.heap.objs.size, _, I.laid (t' := s.toks) (o := .lst (cutV xs lo hi)) (fun b ob q => Heap.get?_push_of_some _ q) (Nat.le_refl _) ?_, rfl, q _ (I.hok.fresh (Nat.le_refl _))⟩
  exact ⟨Nat.le_trans (cutV_length xs lo hi) hz, _, 0, (r.drop (HT.sIx xs.length 0 lo)).take (HT.sIx xs.length xs.length hi - HT.sIx xs.length 0 lo), Heap.get?_push_size _ rfl⟩

theorem op_notIn_str : OpR X (compareOp .NotIn) (fun x y H Q => ∃ i j, x = .str i ∧ y = .str j ∧ Q (.bl (!(!(Builtin.Str.occurrences j i 0 j.length 1).isEmpty))) H) := by
  intro pins s σ H x y v u Q I rx ry h
  obtain ⟨i, j, rfl, rfl, q⟩ := h
  obtain ⟨t, rfl⟩ := rx
  obtain ⟨t', rfl⟩ := ry
  exact notIn_str ⟨.bl _, H, I, rfl, q⟩

theorem call_len_seq : CallR X (.builtin "len") (fun xs H Q => ∃ p ys, xs = [.ref p] ∧ (SqL X.K H p ys ∨ SqT X.K H p ys) ∧ Q (.int ys.length) H) := by
  intro pins s σ H xs us Q I r h
  obtain ⟨p, ys, rfl, hq, q⟩ := h
  obtain ⟨u, rfl, rx⟩ := vals1 r
  cases rx
  have hn := line63
  rcases hq with hq | hq
  · obtain ⟨its, r', pl, hz⟩ := I.list hq
    have hlen := r'.length
    exact Calls.call_len_list pl.isList (by simp only [List.size_toArray] <;> omega) ⟨.int ys.length, H, I.tok _, ⟨s.toks + 1, by rw [List.size_toArray, hlen]⟩, q⟩
  · obtain ⟨its, r', pl, hz⟩ := I.tuple hq
    have hlen := r'.length
    exact len_tuple pl (by simp only [List.size_toArray] <;> omega) ⟨.int ys.length, H, I.tok _, ⟨s.toks + 1, by rw [List.size_toArray, hlen]⟩, q⟩
theorem call_len_str : CallR X (.builtin "len") (fun xs H Q => ∃ z, xs = [.str z] ∧ z.length ≤ sizeLine ∧ Q (.int z.length) H) := by
  intro pins s σ H xs us Q I r h
  obtain ⟨z, rfl, hz, q⟩ := h
  obtain ⟨u, rfl, t, rfl⟩ := vals1 r
  have hn := line63
  exact len_str (by omega) ⟨.int z.length, H, I.tok _, ⟨_, rfl⟩, q⟩
theorem call_list_of : CallR X (.type "list") (fun xs H Q => ∃ p ys, xs = [.ref p] ∧ (SqL X.K H p ys ∨ SqT X.K H p ys) ∧ ∀ l, H l = none → Q (.ref l) (upd H l (.lst ys))) := by
  intro pins s σ H xs us Q I r h
  obtain ⟨p, ys, rfl, hq, q⟩ := h
  obtain ⟨u, rfl, rx⟩ := vals1 r
  cases rx
  have fin : ∀ (its : List Value), Vals ys its → ys.length ≤ sizeLine → ∀ (h' : Heap) (c' : Nat), (∀ b o', s.heap.get? b = some o' → h'.get? b = some o') →
      h'.get? s.heap.objs.size = some { cls := .type "list", dict := none, data := .seq its.toArray c', slots := #[] } → EP X pins σ Q (.ref s.heap.objs.size) { s with heap := h' } := fun its r' hz h' c' kp e =>
    ⟨.ref s.heap.objs.size, _, I.laid (t' := s.toks) kp (Nat.le_refl _) (show ObjOk X.prog X.w _ h' _ (.lst ys) from ⟨hz, its, c', r', e⟩), rfl, q _ (I.hok.fresh (Nat.le_refl _))⟩
  rcases hq with hq | hq
  · obtain ⟨its, r', pl, hz⟩ := I.list hq
    have hlen := r'.length
    obtain ⟨o, ho, hc, n, hd⟩ := pl.isList
    exact call_list_seq p (.inl rfl) ho hc hd (fun h' c' kp e => fin its r' hz h' c' kp e) (by simp only [List.size_toArray] <;> omega)
  · obtain ⟨its, r', pl, hz⟩ := I.tuple hq
    have hlen := r'.length
    obtain ⟨o, ho, hc, n, hd⟩ := pl
    exact call_list_seq p (.inr rfl) ho hc hd (fun h' c' kp e => fin its r' hz h' c' kp e) (by simp only [List.size_toArray] <;> omega)
theorem call_tuple_of : CallR X (.type "tuple") (fun xs H Q => ∃ p ys, xs = [.ref p] ∧ ((SqL X.K H p ys ∧ ∀ l, H l = none → Q (.ref l) (upd H l (.tup ys))) ∨ (SqT X.K H p ys ∧ Q (.ref p) H))) := by
  intro pins s σ H xs us Q I r h
  obtain ⟨p, ys, rfl, h⟩ := h
  obtain ⟨u, rfl, rx⟩ := vals1 r
  cases rx
  rcases h with ⟨hq, q⟩ | ⟨hq, q⟩
  · obtain ⟨its, r', pl, hz⟩ := I.list hq
    have hlen := r'.length
    refine call_tuple_list pl.isList (fun h' kp => ?_) (by simp only [List.size_toArray] <;> omega)
    have I1 : Inv X pins σ H { s with heap := h' } := I.kept (t' := s.toks) kp
    have I2 : Inv X pins σ (upd H h'.objs.size (.tup ys)) { s with heap := h'.push { cls := .type "tuple", data := .seq its.toArray } } :=
      I1.laid (t' := s.toks) (fun b o e => Heap.get?_push_of_some _ e) (Nat.le_refl _) (show ObjOk X.prog X.w _ _ _ (.tup ys) from ⟨hz, its, r', IsTup.new _ _⟩)
    exact ⟨.ref h'.objs.size, _, I2, rfl, q _ (I1.hok.fresh (Nat.le_refl _))⟩
  · obtain ⟨its, r', pl, hz⟩ := I.tuple hq
    exact call_tuple_same pl ⟨.ref p, H, I, rfl, q⟩

def tyV (K : PySem.W.Frag) (T : String) (x : V) (H : Hp) : Prop := match x with
  | .str _ => T = "str"
  | .int _ => T = "int"
  | .ref p => (T = "list" ∧ ∃ xs, SqL K H p xs) ∨ (T = "tuple" ∧ ∃ o, K.lookup p = some o ∧ o.cls = .type "tuple" ∧ o.dict = none) ∨
      (T = "dict" ∧ ((∃ kvs, H p = some (.dK kvs)) ∨ ∃ kvs, H p = some (.dT kvs))) ∨ (T = "set" ∧ ∃ S n, H p = some (.set S n))
  | _ => False
theorem tyV_is {pins : List (Addr × Obj)} {σ : St} {H : Hp} {s : Shared} {T : String} {x : V} {v : Value} (I : Inv X pins σ H s) (r : RelV x v) (ty : tyV X.K T x H) :
    s.TypeIs v T ∧ ∀ a, v = .ref a → ∃ ob, s.heap.get? a = some ob ∧ ob.dict = none := by
  cases x with
  | str z =>
    obtain ⟨t, rfl⟩ := r
    cases (show T = "str" from ty)
    exact ⟨typeIs_str s z t, fun _ e => nomatch e⟩
  | int i =>
    obtain ⟨t, rfl⟩ := r
    cases (show T = "int" from ty)
    exact ⟨typeIs_int s i t, fun _ e => nomatch e⟩
  | ref p =>
    cases r
    rcases ty with ⟨rfl, xs, hq⟩ | ⟨rfl, o, hk, hc, hd⟩ | ⟨rfl, hk⟩ | ⟨rfl, S, n, hk⟩
    · obtain ⟨its, _, pl, _⟩ := I.list hq
      refine ⟨pl.isList.typeIs, fun a e => ?_⟩
      cases e
      obtain ⟨o, n, e, c, hd, _⟩ := pl
      exact ⟨o, e, hd⟩
    · refine ⟨⟨o, I.kIn p o hk, hc⟩, fun a e => ?_⟩
      cases e
      exact ⟨o, I.kIn _ o hk, hd⟩
    · have z : ∃ o, s.heap.get? p = some o ∧ o.ExactDict := by
        rcases hk with ⟨kvs, hk⟩ | ⟨kvs, hk⟩
        · obtain ⟨_, _, _, _, o, _, _, e, ex, _⟩ := I.hok p _ hk
          exact ⟨o, e, ex⟩
        · obtain ⟨_, _, _, _, o, _, _, e, ex, _⟩ := I.hok p _ hk
          exact ⟨o, e, ex⟩
      obtain ⟨o, e, ex⟩ := z
      refine ⟨⟨o, e, ex.1⟩, fun a e2 => ?_⟩
      cases e2
      exact ⟨o, e, ex.2.1⟩
    · obtain ⟨o, _, _, _, e, ex, _⟩ := I.hok p _ hk
      refine ⟨⟨o, e, ex.1⟩, fun a e2 => ?_⟩
      cases e2
      exact ⟨o, e, ex.2.1⟩
  | _ => exact False.elim ty
def tBM (K : PySem.W.Frag) (T : String) (r : V → List V → Hp → VK → Prop) (to : TE) (t : TA) : TE := fun σ H Q => to σ H fun x H1 => tyV K T x H1 ∧ t σ H1 fun xs H2 => r x xs H2 Q
variable {o e : Expr} {es : List Expr} {to : TE} {t : TA} {name : Str} {apos cpos : Pos} {T id : String} {r : V → List V → Hp → VK → Prop}
theorem pe_bm (pa : PlainAttrs T) (slot : Slot T name id) (hty : typeOf (.builtin id) = pure (.type "method_descriptor")) (hm : MtR X id r) (ho : PE X o to) (ha : PA X (e :: es) t)
    (hbase : attributeBase o name X.env (eval o X.env) = eval o X.env := by rfl)
    (hfew : ((backTo cpos (starEach (e :: es) X.env)).all (fun x => !x.1) && (backToKw cpos (keywordEach [] X.env)).all (fun x => x.1.isSome)
      && decide ((e :: es).length + ([] : List Keyword).length + (if ([] : List Keyword).isEmpty then 0 else 1) < 30)) = true := by rfl)
    (hline : (apos.endLine == cpos.line) = true := by rfl) (hs : starEach (e :: es) X.env = (false, eval e X.env) :: starEach es X.env := by rfl) (hplain : (backTo cpos (starEach es X.env)).any (·.1) = false := by rfl) :
    PE X (.Call (.Attribute o name apos) (e :: es) [] cpos) (tBM X.K T r to t) := by
  intro pins s σ H Q I h
  refine wpAny_Call_method_late hbase hfew hline rfl (thn (ho pins s σ H _ I h) ?_)
  rintro v s1 ⟨x, H1, I1, r1, ty, q1⟩
  obtain ⟨h1, h2⟩ := tyV_is I1 r1 ty
  refine ⟨T, id, pa, slot, hty, h1, h2, ?_⟩
  have hA := ha cpos pins s1 σ H1 _ I1 q1
  rw [hs] at hA ⊢
  refine Calls.callWith_builtin (by show (false || (backTo cpos (starEach es X.env)).any (·.1)) = false; rw [hplain] <;> rfl) (Calls.evalArgs_plain ?_)
  exact thn hA fun us s2 ⟨vs, H2, I2, r2, q2⟩ => hm pins s2 σ H2 x vs v us Q I2 r1 r2 q2
end
end L2
namespace L2
open PySem PySem.Spec PyProof.Rows
def MtM (X : Cx) (id : String) (r : V → List V → Hp → VK → Prop) : Prop :=
  ∀ (pins : List (Addr × Obj)) (s : Shared) (σ : St) (H : Hp) (x : V) (xs : List V) (v : Value) (us : List Value) (Q : VK), Inv X pins σ H s → RelV x v → Vals xs us → r x xs H Q →
    wpAny (model X.prog X.w) X.A (call (.builtin id) (v :: us)) (EP X pins σ Q) X.xe s

theorem Vals.one : ∀ {x : V} {us : List Value}, Vals [x] us → ∃ u, us = [u] ∧ RelV x u
  | _, _, .cons r .nil => ⟨_, rfl, r⟩
theorem Vals.rep {xs : List V} {us : List Value} (h : Vals xs us) : ∀ k : Nat, Vals (List.replicate k xs).flatten (List.replicate k us).flatten
  | 0 => .nil
  | k + 1 => by
    rw [List.replicate_succ, List.replicate_succ, List.flatten_cons, List.flatten_cons]
    exact Vals.append h (Vals.rep h k)
theorem foldl_rep (its : List Value) : ∀ (k : Nat) (acc : List Value),
    List.foldl (fun x1 x2 => x1 ++ x2) acc.toArray (List.replicate k its.toArray) = (acc ++ (List.replicate k its).flatten).toArray
  | 0, acc => by simp
  | k + 1, acc => by
    have e : acc.toArray ++ its.toArray = (acc ++ its).toArray := by simp
    have e2 : (acc ++ its) ++ (List.replicate k its).flatten = acc ++ (List.replicate (k + 1) its).flatten := by
      rw [List.replicate_succ, List.flatten_cons, List.append_assoc]
    rw [← e2, ← foldl_rep its k (acc ++ its), ← e, List.replicate_succ, List.foldl_cons]

section
variable {X : Cx} {pins : List (Addr × Obj)} {σ : St} {H : Hp} {s : Shared} {l b : Addr} {xs ys zs : List V}
theorem Inv.lset {its its' : List Value} {n : Nat} {f : Array Value → Array Value} {t' : Nat} (I : Inv X pins σ H s) (hH : H l = some (.lst xs))
    (e : s.heap.get? l = some { cls := .type "list", data := .seq its.toArray n }) (hf : f its.toArray = its'.toArray) (hv : Vals ys its') (hz : ys.length ≤ sizeLine) :
    Inv X pins σ (upd H l (.lst ys)) { s with heap := s.heap.update l (Obj.mapSeq f), toks := t' } := by
  have q := PySem.IsL.update e f
  rw [hf] at q
  refine I.write (x := l) (e := l) (by rw [hH]; exact trivial) (.inl rfl) (fun b' u hb hu => (Heap.get?_update_other s.heap (Obj.mapSeq f) (Ne.symm hb)).trans hu) ⟨_, q⟩ ?_
  exact ⟨hz, its', _, hv, q⟩
theorem Inv.lnew {its : List Value} {t' : Nat} (I : Inv X pins σ H s) (hv : Vals ys its) (hz : ys.length ≤ sizeLine) :
    Inv X pins σ (upd H s.heap.objs.size (.lst ys)) { s with heap := s.heap.push { cls := .type "list", data := .seq its.toArray }, toks := t' } :=
  I.laid (fun _ _ q => Heap.get?_push_of_some _ q) (Nat.le_refl _) ⟨hz, its, 0, hv, Heap.get?_push_size _ rfl⟩
theorem Inv.fresh (I : Inv X pins σ H s) : H s.heap.objs.size = none := I.hok.fresh (Nat.le_refl _)
theorem Inv.lstM (I : Inv X pins σ H s) (hH : H l = some (.lst xs)) : xs.length ≤ sizeLine ∧ ∃ (its : List Value) (n : Nat), Vals xs its ∧ xs.length = its.length ∧ s.heap.get? l = some { cls := .type "list", data := .seq its.toArray n } := by
  obtain ⟨z, its, n, r, e⟩ := I.hok l _ hH
  exact ⟨z, its, n, r, r.length, e⟩

theorem notLongL {n : Nat} (h : n ≤ sizeLine) : Builtin.List.listTooLong n = false := by
  unfold Builtin.List.listTooLong
  exact decide_eq_false (by omega)
end
section
variable {X : Cx}
def rAppend : V → List V → Hp → VK → Prop := fun x vs H Q => ∃ l xs y, x = .ref l ∧ vs = [y] ∧ H l = some (.lst xs) ∧ xs.length < sizeLine ∧ Q .non (upd H l (.lst (xs ++ [y])))
theorem mt_append : MtM X "list.append" rAppend := by
  intro pins s σ H x vs v us Q I rx rv h
  obtain ⟨l, xs, y, rfl, rfl, hH, hz, q⟩ := h
  cases rx
  obtain ⟨u, rfl, ru⟩ := rv.one
  obtain ⟨z, its, n, r, hl, e⟩ := I.lstM hH
  refine call_meets F.slot_list_append ⟨_, e, rfl⟩ F.entry_list_append (F.args_list_append_2 _ _) (PySem.list_append l its.toArray n u (by rw [List.size_toArray]; omega)) ⟨e, ?_⟩
  refine ⟨.non, _, I.lset (its' := its ++ [u]) hH e (by simp) (r.append (.cons ru .nil)) ?_, rfl, q⟩
  rw [List.length_append, List.length_singleton]
  omega

def rCat : R2 := fun x y H Q => ∃ l b xs zs, x = .ref l ∧ y = .ref b ∧ H l = some (.lst xs) ∧ H b = some (.lst zs) ∧ xs.length + zs.length ≤ sizeLine ∧ ∀ p, H p = none → Q (.ref p) (upd H p (.lst (xs ++ zs)))
theorem op_cat : OpR X (binaryOp .Add) rCat := by
  intro pins s σ H x y v u Q I rx ry h
  obtain ⟨l, b, xs, zs, rfl, rfl, hH, hB, hz, q⟩ := h
  cases rx
  cases ry
  obtain ⟨z, its, n, r, hl, e⟩ := I.lstM hH
  obtain ⟨z2, its2, n2, r2, hl2, e2⟩ := I.lstM hB
  refine PySem.P.add_list e e2 ?_ (by rw [List.size_toArray, List.size_toArray]; omega)
  have ea : its.toArray ++ its2.toArray = (its ++ its2).toArray := by simp
  rw [ea]
  exact ⟨.ref _, _, I.lnew (t' := s.toks) (r.append r2) (by rw [List.length_append]; omega), rfl, q _ I.fresh⟩
def rRep : R2 := fun x y H Q => ∃ l k xs, x = .ref l ∧ y = .int k ∧ H l = some (.lst xs) ∧ -(2 ^ 63) ≤ k ∧ k < 2 ^ 63 ∧ xs.length * k.toNat ≤ sizeLine ∧
  ∀ p, H p = none → Q (.ref p) (upd H p (.lst (List.replicate k.toNat xs).flatten))
theorem len_rep {α : Type} (xs : List α) (k : Nat) : (List.replicate k xs).flatten.length = k * xs.length := by
  induction k with
  | zero => simp
  | succ k ih => rw [List.replicate_succ, List.flatten_cons, List.length_append, ih, Nat.succ_mul, Nat.add_comm]
theorem op_rep : OpR X (binaryOp .Mult) rRep := by
  intro pins s σ H x y v u Q I rx ry h
  obtain ⟨l, k, xs, rfl, rfl, hH, h1, h2, hz, q⟩ := h
  cases rx
  obtain ⟨t, rfl⟩ := ry
  obtain ⟨z, its, n, r, hl, e⟩ := I.lstM hH
  have hlen : its.toArray.size * k.toNat ≤ sizeLine := by rw [List.size_toArray, ← hl]; exact hz
  have hcap : ¬ its.toArray.size * k.toNat > (2 ^ 63 - 1) / 8 := by
    have : (sizeLine : Nat) ≤ (2 ^ 63 - 1) / 8 := by decide
    omega
  have hfit : ¬ (!Builtin.List.listFitsIndex k) = true := by
    rw [fitsIndex_both h1 h2]
    exact Bool.false_ne_true
  have hlong : ¬ Builtin.List.listTooLong (its.toArray.size * k.toNat) = true := by
    rw [notLongL hlen]
    exact Bool.false_ne_true
  have hnew : List.foldl (fun x1 x2 => x1 ++ x2) #[] (List.replicate (if its.toArray.isEmpty = true then 0 else k.toNat) its.toArray) = (List.replicate k.toNat its).flatten.toArray := by
    have f0 : ∀ m : Nat, List.foldl (fun x1 x2 => x1 ++ x2) #[] (List.replicate m its.toArray) = (List.replicate m its).flatten.toArray := fun m => by
      have := foldl_rep its m []
      rw [List.nil_append] at this
      exact this
    rw [f0]
    cases its with
    | nil => simp
    | cons a r' => rw [if_neg (by simp)]
  refine wpAny_binaryOp_repeat_ref (T := "list") (U := "int") (by decide) ⟨_, e, rfl⟩ (fun s' => typeIs_int s' k t) noFill_list_mul F.fills_int_mul F.slot_int_rmul repeat_list F.slot_int_index.lookup
    (call_meets F.slot_int_rmul (typeIs_int s k t) F.entry_int_rmul (F.args_int_rmul_2 _ _) (int___rmul___int_list k t l its.toArray n)
      ⟨e, rfl, ⟨_, e, rfl⟩, call_meets F.slot_list_mul ⟨_, e, rfl⟩ F.entry_list_mul (F.args_list_mul_2 _ _) (AutoListH.list___mul___list_int_3 l its.toArray n k t hfit hcap hlong) ⟨e, ?_⟩⟩)
  rw [hnew]
  exact ⟨.ref _, _, I.lnew (t' := s.toks) (r.rep k.toNat) (by rw [len_rep, Nat.mul_comm]; exact hz), rfl, q _ I.fresh⟩

end
end L2
namespace Att
open PySem PySem.W PySem.Calls PyProof.Rows
theorem ints_of_wellAll {P : Params} {h : Heap} : ∀ (ns : List Int) (vs : List Value), WellAll P h vs (ns.map WData.int) → IntsAre vs ns := by
  intro ns
  induction ns with
  | nil =>
    intro vs w
    rw [List.map_nil] at w
    cases w
    exact .nil
  | cons n ns ih =>
    intro vs w
    rw [List.map_cons] at w
    cases w with
    | cons a b =>
      cases a
      exact .cons _ _ (ih _ b)

theorem script_of {l : OpenLaw} {n : Nat} (hn : l.most = some n) {P : Params} {h : Heap} {args : List WData} {vals : List Value}
    (hpre : l.row.toRowW.claim.pre args = true) (hwl : WellAll P h vals args) :
    ∃ a vs ns, vals = [Value.ref a] ∧ args = [WData.list (ns.map WData.int)] ∧ h.get? a = some { cls := .type "list", data := .seq vs.toArray } ∧ IntsAre vs ns ∧ ns.length ≤ n := by
  have hsh : WShape.hasAll [] args [.list .int] = true := (pre_splitW hpre).1
  have hc : l.pre.holds [] { args := args } = true := (pre_splitW hpre).2
  obtain ⟨d, r, rfl, h1, h2⟩ := hasAllW_cons hsh
  obtain rfl := hasAllW_nil h2
  obtain ⟨xs, rfl, h3⟩ := hasW_list h1
  obtain ⟨ns, rfl⟩ := items_int h3
  have hlen : ns.length ≤ n := by
    unfold OpenLaw.pre at hc
    have h4 : (WTm.not (.lt (.lit (.int (n : Int))) (.len (.arg 0)))).holds [] { args := [.list (ns.map .int)] } = true := by
      have h4 := (holds_andW hc).1
      rw [hn] at h4
      exact h4
    have h5 := condW_of h4 (w_not (w_lt w_lit (w_len_list (w_arg rfl))))
    rw [List.length_map] at h5
    refine Nat.le_of_not_lt fun q => ?_
    have q' : (n : Int) < ((ns.length : Nat) : Int) := by omega
    first
      | (rw [decide_eq_true q'] at h5; exact absurd h5 (by decide))
      | (simp at h5; omega)
  cases hwl with
  | cons w1 w2 =>
    cases w2
    cases w1 with
    | list ho hall => exact ⟨_, _, ns, rfl, rfl, ho, ints_of_wellAll ns _ hall, hlen⟩

theorem post_true (l : OpenLaw) (args : List WData) : l.row.toRowW.claim.post args (.bool true) args = true :=
  postW_of (r := l.row.toRowW) (X := (true == true))
    (show WShape.has [] (.bool true) .bool = true by first | rfl | decide | simp [WShape.has, WShape.arms, WShape.armsAll])
    (show (WTm.eq .res (.lit (.bool true))).value [] { args := args, res := some (.bool true), after := args } = some (.bool (true == true)) from w_eq_bool (w_res rfl) w_lit) rfl

theorem attach_call {l : OpenLaw} {n : Nat} {q : Program} {loose : List Str} {XP : (Str → Option Value) → Heap → Prop} {YP : World → Heap → Prop} {d : DefRec}
    (hn : l.most = some n) (hdf : d.params.defaults = [])
    (call : ∀ (w : World) (s₀ s₁ : Shared) (mg mb : Str → Option Value) (fa : Addr) (o : Obj) (pm cd doc : Value) (a : Addr) (vs : List Value) (ns : List Int),
      Ground q loose [] XP w s₀ mg mb s₁.heap → YP w s₁.heap →
      s₁.heap.get? fa = some o → o.data = .func (docDef d.name d.params d.body d.scope pm cd doc) → s₁.heap.CodeRec cd d.name → mg d.name = some (.ref fa) →
      s₁.heap.get? a = some { cls := .type "list", data := .seq vs.toArray } → IntsAre vs ns → ns.length ≤ n → s₁.gens = #[] →
      codeAny (model l.prog w) callerA (.call (.ref fa) ⟨[.ref a], []⟩) (fun r s' => r = .ok (.ret (.bool true)) ∧ OldK s₁.heap s'.heap ∧ s'.os = s₁.os ∧ AllBare s'.gens) s₁) :
    WalkO q loose XP YP l.row.toRowW d [] (fun f vs => PySem.call f vs) := by
  intro w s₀ s₁ mg mb G Y fa o pm cd doc dV kV ho hd hcd hD hmg hg args vals as hpre hlay hrd hwl hlo
  obtain rfl : dV = .none := Dflts.none hD hdf
  obtain rfl : kV = .none := Dflts.noKw hD
  obtain ⟨a, vs, ns, rfl, rfl, hobj, hints, hlen⟩ := script_of hn hpre hwl
  refine enter_call (codeAny_mono (call w s₀ s₁ mg mb fa o pm cd doc a vs ns G Y ho (fd_plain hd) hcd hmg hobj hints hlen hg) fun r s' hq => ?_)
  obtain ⟨rfl, h2, h3, h4⟩ := hq
  exact ⟨.inl ⟨.bool true, .bool true, [], rfl, fun _ => rfl, .bool true, post_true l _, fun _ => ⟨List.Pairwise.nil, fun _ hm => (nomatch hm)⟩⟩, h2, h3, h4⟩

end Att
namespace L2
open PySem PySem.Spec PyProof.Rows
theorem vals_ints : ∀ {vs : List Value} {ns : List Int}, IntsAre vs ns → Vals (ns.map V.int) vs
  | _, _, .nil => .nil
  | _, _, .cons n t h => .cons ⟨t, rfl⟩ (vals_ints h)

def Only (H : Hp) : Prop := ∀ b, H b = none ∨ ∃ o xs, H b = some (.frz o (.lst xs))

theorem law_call {P : Program} {w : World} {K : PySem.W.Frag} {mg mb : Str → Option Value} {CX : CXT} {k : Nat} {fa a : Addr} {fd : FuncData} {x : Str} {sp : Sp} {s₁ : Shared} {vs : List Value} {ns : List Int}
    (KX : K.In s₁.heap) (hns : s₁.heap.Ns mainGlobals mg) (hb : s₁.heap.Ns builtinsNs mb) (hbb : ∀ x : Str, x ≠ "__name__" → mb x = bootBuiltins x) (hlim : s₁.heap.NoLimit) (hg : s₁.gens = #[])
    (ha : s₁.heap.get? a = some { cls := .type "list", data := .seq vs.toArray }) (hi : IntsAre vs ns) (hl : ns.length ≤ sizeLine) (hr : Room k callerA)
    (F : ∀ base : Heap, K.In base → base.Ns mainGlobals mg → FnOk P w K mg base CX k fa fd [x] sp) (hbind : ∀ (s : Shared) (u : Value), BindsTo s fd ⟨[u], []⟩ [(x, u)])
    (hsp : ∀ H : Hp, Only H → SqL K H a (ns.map V.int) → sp [.ref a] H (fun v _ => v = .bl true) fun _ _ _ => False)
    (hCX : ∀ H e s', CX [] H s₁ (fun _ _ _ => False) e s' → False) :
    codeAny (model P w) callerA (.call (.ref fa) ⟨[.ref a], []⟩) (fun r s' => r = .ok (.ret (.bool true)) ∧ OldK s₁.heap s'.heap ∧ s'.os = s₁.os ∧ AllBare s'.gens) s₁ := by
  have rv := vals_ints hi
  have lenV := hi.length
  -- from an abstract heap in which nothing but the script may be tracked
  have core : ∀ H : Hp, Only H → SqL K H a (ns.map V.int) → HOk P w H s₁.heap → (∀ b, H b ≠ none → b = a) → (H a ≠ none → K.lookup a = none) →
      codeAny (model P w) callerA (.call (.ref fa) ⟨[.ref a], []⟩) (fun r s' => r = .ok (.ret (.bool true)) ∧ OldK s₁.heap s'.heap ∧ s'.os = s₁.os ∧ AllBare s'.gens) s₁ := by
    intro H hO hS hok hA hK
    have base_of : ∀ {b : Addr} {o : Obj}, s₁.heap.get? b = some o → H b = none → (hidT s₁.heap H).get? b = some o := fun e n => hidT_get e n
    have noA : ∀ {b : Addr} {o : Obj} {es : Array DictEntry} {ep : Nat}, s₁.heap.get? b = some o → o.data = .dict es ep → H b = none := fun {b o es ep} e d => by
      cases q : H b with
      | none => rfl
      | some u =>
        have e' : b = a := hA b (by rw [q]; simp)
        subst e'
        rw [ha] at e; cases e
        have d' : Data.seq vs.toArray _ = Data.dict es ep := d
        cases d'
    have nsK : ∀ {b : Addr} {m : Str → Option Value}, s₁.heap.Ns b m → (hidT s₁.heap H).Ns b m := fun {b m} ⟨o, es, ep, e, d, r⟩ => ⟨o, es, ep, base_of e (noA e d), d, r⟩
    have hKb : K.In (hidT s₁.heap H) := fun b o e => base_of (KX b o e) (by
      cases q : H b with
      | none => rfl
      | some u =>
        have e' : b = a := hA b (by rw [q]; simp)
        subst e'
        rw [hK (by rw [q]; simp)] at e; cases e)
    have hM : Mod K mg (hidT s₁.heap H) := ⟨hKb, nsK hns, ⟨mb, nsK hb, hbb⟩, let ⟨mc, h1, h2⟩ := hlim; ⟨mc, nsK h1, h2⟩⟩
    have e0 : Env0 P w K mg (hidT s₁.heap H) callerA [] s₁ H := ⟨rfl, hM, fun b o e => of_hidT e, Nat.le_of_eq (hidT_size _ _), trivial, fun b hb => absurd (show b ∈ ([] : List Addr) from hb) (by simp), hok, .of_eq hg⟩
    refine codeAny_mono ((F _ hKb (nsK hns)).run callerA [] s₁ H ⟨[.ref a], []⟩ [.ref a] [.ref a] _ _ hr e0 (hbind s₁ (.ref a)) (.cons rfl .nil) (hsp H hO hS)) fun r s' h => ?_
    cases r with
    | error e => exact (hCX H e s' h).elim
    | ok fl =>
      cases fl with
      | next => exact False.elim h
      | brk => exact False.elim h
      | cont => exact False.elim h
      | ret u =>
        obtain ⟨v, H', os, bare, un, hok', r', q⟩ := h
        have q' : v = .bl true := q
        subst q'
        obtain rfl : u = Value.bool true := r'
        refine ⟨rfl, OldK.of_keep fun b o e => ?_, os, bare⟩
        cases q : H b with
        | none => exact un.keep b o e q (by intro z; exact absurd (show b ∈ ([] : List Addr) from z) (by simp)) (by simp)
        | some u =>
          rcases hO b with z | ⟨ob, xs, z⟩
          · rw [q] at z; cases z
          · have z2 := un.frzs b ob _ z
            obtain ⟨e1, _⟩ := hok b _ z
            obtain ⟨e2, _⟩ := hok' b _ z2
            rw [e] at e1; cases e1
            exact e2
  cases hk : K.lookup a with
  | some o =>
    -- the script is one of the module's own objects
    have e := KX a o hk
    rw [ha] at e
    cases e
    refine core (fun _ => none) (fun _ => .inl rfl) (.inr ⟨_, vs.toArray, _, hk, rfl, rfl, rfl, by rw [List.size_toArray, lenV]; exact hl, by simpa using rv⟩) (fun b u z => by have z' : (none : Option HO) = some u := z; cases z') (fun b z => absurd rfl z) fun z => absurd rfl z
  | none =>
    refine core (fun b => if b = a then some (.frz { cls := .type "list", data := .seq vs.toArray } (.lst (ns.map V.int))) else none) (fun b => ?_) (.inl (.inr ⟨{ cls := .type "list", data := .seq vs.toArray }, if_pos rfl⟩)) (fun b u z => ?_) (fun b z => ?_) fun _ => hk
    · by_cases hb : b = a
      · exact .inr ⟨_, _, if_pos hb⟩
      · exact .inl (if_neg hb)
    · by_cases hb : b = a
      · have z' := (if_pos hb).symm.trans z
        cases z'
        subst hb
        exact ⟨ha, by rw [List.length_map]; exact hl, vs, _, rv, ha⟩
      · have z' := (if_neg hb).symm.trans z
        cases z'
    · by_cases hb : b = a
      · exact hb
      · exact absurd (if_neg hb) z
end L2
namespace L2
open PySem PySem.Spec PyProof.Rows
abbrev KOf {K : PySem.W.Frag} {h : Heap} (_ : K.In h) : PySem.W.Frag := K

theorem walk_of {l : PySem.W.OpenLaw} {n k : Nat} {q : Program} {loose : List Str} {XP : (Str → Option Value) → Heap → Prop} {YP : World → Heap → Prop} {d : DefRec} {K : Params → PySem.W.Frag} {CX : World → CXT} {sp : World → Sp} {x : Str}
    (hn : l.most = some n) (hn2 : n ≤ sizeLine) (hdf : d.params.defaults = []) (hr : Room k callerA)
    (hY : ∀ (w : World) (h : Heap), YP w h → (K w.params).In h)
    (F : ∀ (w : World) (mg : Str → Option Value) (fa : Addr) (h : Heap), (K w.params).In h → h.Ns mainGlobals mg → mg d.name = some (.ref fa) →
      ∃ fd : FuncData, (∀ (s : Shared) (u : Value), BindsTo s fd ⟨[u], []⟩ [(x, u)]) ∧
        ∀ base : Heap, (K w.params).In base → base.Ns mainGlobals mg → FnOk l.prog w (K w.params) mg base (CX w) k fa fd [x] (sp w))
    (hsp : ∀ (w : World) (H : Hp) (a : Addr) (ns : List Int), ns.length ≤ n → Only H → SqL (K w.params) H a (ns.map V.int) → sp w [.ref a] H (fun v _ => v = .bl true) fun _ _ _ => False)
    (hCX : ∀ (w : World) (H : Hp) (s : Shared) (e : Value) (s' : Shared), CX w [] H s (fun _ _ _ => False) e s' → False) :
    PySem.W.WalkO q loose XP YP l.row.toRowW d [] (fun f vs => PySem.call f vs) := by
  refine Att.attach_call hn hdf fun w s₀ s₁ mg mb fa o pm cd doc a vs ns G Y ho hd hcd hmg hobj hints hlen hg => ?_
  have KX := hY w _ Y
  obtain ⟨fd, hb, hF⟩ := F w mg fa _ KX G.T.g hmg
  exact law_call KX G.T.g G.T.b G.T.builtins G.T.nolimit hg hobj hints (Nat.le_trans hlen hn2) hr hF hb (fun H hO hS => hsp w H a ns hlen hO hS) fun H e s' => hCX w H s₁ e s'
theorem walk_ofK {l : PySem.W.OpenLaw} {n k : Nat} {q : Program} {loose : List Str} {XP : (Str → Option Value) → Heap → Prop} {YP : World → Heap → Prop} {d : DefRec} {K : Params → PySem.W.Frag} {CX : CXT} {sp : PySem.W.Frag → Sp} {x : Str}
    (hn : l.most = some n) (hn2 : n ≤ sizeLine) (hdf : d.params.defaults = []) (hr : Room k callerA)
    (hY : ∀ (w : World) (h : Heap), YP w h → (K w.params).In h)
    (F : ∀ (w : World) (mg : Str → Option Value) (fa : Addr) (h : Heap), (K w.params).In h → h.Ns mainGlobals mg → mg d.name = some (.ref fa) →
      ∃ fd : FuncData, (∀ (s : Shared) (u : Value), BindsTo s fd ⟨[u], []⟩ [(x, u)]) ∧
        ∀ base : Heap, (K w.params).In base → base.Ns mainGlobals mg → FnOk l.prog w (K w.params) mg base CX k fa fd [x] (sp (K w.params)))
    (hsp : ∀ (K : PySem.W.Frag) (H : Hp) (a : Addr) (ns : List Int), ns.length ≤ n → Only H → SqL K H a (ns.map V.int) → sp K [.ref a] H (fun v _ => v = .bl true) fun _ _ _ => False)
    (hCX : ∀ (H : Hp) (s : Shared) (e : Value) (s' : Shared), CX [] H s (fun _ _ _ => False) e s' → False) :
    PySem.W.WalkO q loose XP YP l.row.toRowW d [] (fun f vs => PySem.call f vs) :=
  walk_of (K := K) (CX := fun _ => CX) (sp := fun w => sp (K w.params)) hn hn2 hdf hr hY F (fun w H a ns h1 h2 h3 => hsp (K w.params) H a ns h1 h2 h3) fun _ H s e s' => hCX H s e s'
end L2
namespace L2
open PySem PySem.Spec PyProof.Rows
noncomputable def defArgs (s : Stmt) : Arguments := match s with
  | .FunctionDef _ a _ _ _ _ _ _ _ _ => a
  | _ => { posonlyargs := [], args := [], vararg := none, kwonlyargs := [], kw_defaults := [], kwarg := none, defaults := [] }
noncomputable def defBody (s : Stmt) : List Stmt := match s with
  | .FunctionDef _ _ b _ _ _ _ _ _ _ => b
  | _ => []
noncomputable def defScope (s : Stmt) : Scope := match s with
  | .FunctionDef _ _ _ _ _ _ sc _ _ _ => sc
  | _ => { kind := .function, names := [], isGenerator := false, isCoroutine := false }

abbrev CX0 : CXT := fun _ _ _ _ _ _ => False
abbrev E0 : XK := fun _ _ _ => False
theorem pass0 {X : Cx} : Passes CX0 X E0 := fun _ _ _ _ _ _ _ h => h.elim

structure Fun (K : PySem.W.Frag) (x qual : Str) (st : Stmt) (f : Addr) (fd : FuncData) : Prop where
  ex : ∃ (oc : Value) (od : Option Addr) (kV doc pm : Value) (an : Option Addr) (cdv ct : Value) (osl : Array (Option Value)),
    fd = PySem.W.fnOf x qual (defArgs st) (defBody st) (defScope st) .none kV doc pm an cdv ct ∧ K.lookup f = some ⟨oc, od, .func fd, osl⟩ ∧ PySem.W.codeIn K cdv qual = true
  kp : PySem.W.keepIn K (.ref f) = true
section
variable {P : Program} {w : World} {K : PySem.W.Frag} {mg : Str → Option Value} {base : Heap}
theorem Fun.ok {x qual : Str} {st : Stmt} {f : Addr} {fd : FuncData} {N ps : List Str} {k : Nat} {sp : Sp} (F : Fun K x qual st f fd) (S : FnScope N ps (defScope st)) (len : ∀ vs H Q E, sp vs H Q E → vs.length = ps.length)
    (hbody : ∀ (cdv : Value) (A : Around) (outer : List Env) (s : Shared) (H : Hp) (vs : List V) (Q : VK) (E : XK), Room k (A.deeper (envOfC qual (defScope st) s.heap.objs.size f cdv)) → sp vs H Q E →
      ∃ t, PSs (cxOf CX0 P w K mg base N qual (defScope st) f cdv A outer s H E).nox (defBody st) t ∧ t { nx := fun _ H' => Q .non H', rt := Q } (start N vs) H) : FnOk P w K mg base CX0 (k + 1) f fd ps sp := by
  obtain ⟨oc, od, kV, doc, pm, an, cdv, ct, osl, rfl, lk, hcd⟩ := F.ex
  refine fn_of lk hcd S len fun A outer s H vs Q E hr hsp => ?_
  obtain ⟨t, h, q⟩ := hbody cdv A outer s H vs Q E hr hsp
  exact ⟨t, h.nox, q⟩
theorem Fun.binds {x qual : Str} {st : Stmt} {f : Addr} {fd : FuncData} {ps : List Str} (F : Fun K x qual st f fd)
    (h : ∀ (kV doc pm : Value) (an : Option Addr) (cdv ct : Value) (us : List Value), us.length = ps.length → bindArgs (PySem.W.fnOf x qual (defArgs st) (defBody st) (defScope st) .none kV doc pm an cdv ct) ⟨us, []⟩ = pure (ps.zip us)) : Binds K fd ps [] := by
  obtain ⟨oc, od, kV, doc, pm, an, cdv, ct, osl, rfl, lk, hcd⟩ := F.ex
  exact .all (h kV doc pm an cdv ct)
theorem fun_mk {x qual : Str} {st : Stmt} {f : Addr} {oc : Value} {od an : Option Addr} {osl : Array (Option Value)} {kV doc pm cdv ct : Value} (l : K.lookup f = some ⟨oc, od, .func (PySem.W.fnOf x qual (defArgs st) (defBody st) (defScope st) .none kV doc pm an cdv ct), osl⟩)
    (c : PySem.W.codeIn K cdv qual = true) (k : PySem.W.keepIn K (.ref f) = true) : Fun K x qual st f (PySem.W.fnOf x qual (defArgs st) (defBody st) (defScope st) .none kV doc pm an cdv ct) := ⟨⟨oc, od, kV, doc, pm, an, cdv, ct, osl, rfl, l, c⟩, k⟩
end
def Same (H H' : Hp) : Prop := ∀ b o, H b = some o → H' b = some o
theorem Same.refl (H : Hp) : Same H H := fun _ _ h => h
end L2
set_option Elab.async false
set_option linter.all false
set_option maxRecDepth 100000
namespace L2
open PySem PySem.Spec PyProof.Rows
noncomputable def clOf (cells : List (Str × Addr)) : List (Str × NameKind) → List (Str × Addr) → List (Str × Addr)
  | [], acc => acc
  | (n, k) :: r, acc => if k == .free then clOf cells r ((n, (cells.lookup n).getD 0) :: acc) else clOf cells r acc

theorem clOf_run (env : Env) : ∀ (names : List (Str × NameKind)) (acc : List (Str × Addr)), (∀ y ∈ names, y.2 = .free → ∃ c, env.cells.lookup y.1 = some c) →
    (forIn names acc fun (x : Str × NameKind) (cs : List (Str × Addr)) =>
      match x with
      | (name, kind) => if (kind == .free) = true then (do let c ← cellOf env name; pure (ForInStep.yield ((name, c) :: cs))) else pure (ForInStep.yield cs)) = (pure (clOf env.cells names acc) : Sem _)
  | [], acc, _ => rfl
  | (n, k) :: r, acc, h => by
    rw [List.forIn_cons]
    by_cases hk : (k == NameKind.free) = true
    · obtain ⟨c, hc⟩ := h (n, k) List.mem_cons_self (eq_of_beq hk)
      have e : cellOf env n = pure c := by unfold cellOf; rw [show env.cells.lookup n = some c from hc]
      simp only [hk, if_true, e, clOf]
      rw [show env.cells.lookup n = some c from hc]
      simp only [pure_bind, Option.getD_some]
      exact clOf_run env r _ fun y hy => h y (List.mem_cons_of_mem _ hy)
    · simp only [hk, if_false, clOf, pure_bind]
      exact clOf_run env r _ fun y hy => h y (List.mem_cons_of_mem _ hy)
theorem closure_of {scope : Scope} {env : Env} (h : ∀ y ∈ scope.names, y.2 = .free → ∃ c, env.cells.lookup y.1 = some c) : closureFor scope env = pure (clOf env.cells scope.names []) := by
  have e := clOf_run env scope.names [] h
  simp only [closureFor]
  simp only [bind_pure_comp, map_pure] at e ⊢
  first | exact e | (rw [e]; rfl) | (simp only [e]; rfl)

theorem clOf_fwd {cells : List (Str × Addr)} {x : Str} {c : Addr} : ∀ {names : List (Str × NameKind)} {acc : List (Str × Addr)}, (∀ y ∈ names, y.2 = .free → ∃ c, cells.lookup y.1 = some c) → (∀ z, acc.lookup x = some z → cells.lookup x = some z) →
    (clOf cells names acc).lookup x = some c → cells.lookup x = some c
  | [], acc, _, ha, h => ha c h
  | (n, k) :: r, acc, hf, ha, h => by
    unfold clOf at h
    by_cases hk : (k == NameKind.free) = true
    · rw [if_pos hk] at h
      refine clOf_fwd (fun y hy => hf y (List.mem_cons_of_mem _ hy)) (fun z hz => ?_) h
      rw [List.lookup_cons] at hz
      split at hz
      · rename_i q
        have e : x = n := eq_of_beq q
        subst e
        obtain ⟨d, hd⟩ := hf (x, k) List.mem_cons_self (eq_of_beq hk)
        have hd' : cells.lookup x = some d := hd
        rw [hd'] at hz ⊢
        exact hz
      · exact ha z hz
    · rw [if_neg hk] at h
      exact clOf_fwd (fun y hy => hf y (List.mem_cons_of_mem _ hy)) ha h
theorem clOf_acc {cells : List (Str × Addr)} {x : Str} {c : Addr} (hc : cells.lookup x = some c) : ∀ {names : List (Str × NameKind)} {acc : List (Str × Addr)}, ((x, NameKind.free) ∈ names ∨ acc.lookup x = some c) →
    (clOf cells names acc).lookup x = some c
  | [], acc, h => by
    rcases h with h | h
    · cases h
    · exact h
  | (n, k) :: r, acc, h => by
    unfold clOf
    by_cases hk : (k == NameKind.free) = true
    · rw [if_pos hk]
      refine clOf_acc hc ?_
      by_cases hn : x = n
      · subst hn
        right
        rw [List.lookup_cons]
        simp [hc]
      · rcases h with h | h
        · rcases List.mem_cons.mp h with h | h
          · injection h with h1 _; exact absurd h1 hn
          · exact .inl h
        · right
          rw [List.lookup_cons]
          have : (x == n) = false := beq_eq_false_iff_ne.mpr hn
          rw [this]
          exact h
    · rw [if_neg hk]
      refine clOf_acc hc ?_
      rcases h with h | h
      · rcases List.mem_cons.mp h with h | h
        · injection h with _ h2; subst h2; exact absurd rfl hk
        · exact .inl h
      · exact .inr h
theorem relabel_free {env : Env} {x : Str} : ∀ {names : List (Str × NameKind)}, (∀ y ∈ names, y.2 ≠ .cell) →
    ((names.map fun (n, k) => if (k == NameKind.free && env.scope.kind == .function && env.kindOf n == some .cell) = true then (n, NameKind.cell) else (n, k)).lookup x = some .cell ∨
      (names.map fun (n, k) => if (k == NameKind.free && env.scope.kind == .function && env.kindOf n == some .cell) = true then (n, NameKind.cell) else (n, k)).lookup x = some .free) → (x, NameKind.free) ∈ names
  | [], _, h => by rcases h with h | h <;> cases h
  | (n, k) :: r, hn, h => by
    have ih := @relabel_free env x r fun y hy => hn y (List.mem_cons_of_mem _ hy)
    rw [List.map_cons] at h
    cases hx : x == n with
    | true =>
      have e : x = n := eq_of_beq hx
      subst e
      by_cases hc : (k == NameKind.free && env.scope.kind == .function && env.kindOf x == some .cell) = true
      · have hk : (k == NameKind.free) = true := by
          rw [Bool.and_eq_true, Bool.and_eq_true] at hc
          exact hc.1.1
        have hk' : k = .free := eq_of_beq hk
        subst hk'
        exact List.mem_cons_self
      · have hc' : (if (k == NameKind.free && env.scope.kind == .function && env.kindOf x == some .cell) = true then (x, NameKind.cell) else (x, k)) = (x, k) := if_neg hc
        simp only [hc', List.lookup_cons, beq_self_eq_true] at h
        have hk : k = .cell ∨ k = .free := by
          rcases h with h | h
          · exact .inl (Option.some.inj h)
          · exact .inr (Option.some.inj h)
        rcases hk with hk | hk
        · exact absurd hk (hn (x, k) List.mem_cons_self)
        · subst hk; exact List.mem_cons_self
    | false =>
      refine List.mem_cons_of_mem _ (ih ?_)
      by_cases hc : (k == NameKind.free && env.scope.kind == .function && env.kindOf n == some .cell) = true
      · have hc' : (if (k == NameKind.free && env.scope.kind == .function && env.kindOf n == some .cell) = true then (n, NameKind.cell) else (n, k)) = (n, NameKind.cell) := if_pos hc
        simp only [hc', List.lookup_cons, hx] at h
        exact h
      · have hc' : (if (k == NameKind.free && env.scope.kind == .function && env.kindOf n == some .cell) = true then (n, NameKind.cell) else (n, k)) = (n, k) := if_neg hc
        simp only [hc', List.lookup_cons, hx] at h
        exact h
theorem relabel_lookup_free {env : Env} {x : Str} : ∀ {names : List (Str × NameKind)}, names.lookup x = some .free →
    (names.map fun (n, k) => if (k == NameKind.free && env.scope.kind == .function && env.kindOf n == some .cell) = true then (n, NameKind.cell) else (n, k)).lookup x = some .cell ∨
      (names.map fun (n, k) => if (k == NameKind.free && env.scope.kind == .function && env.kindOf n == some .cell) = true then (n, NameKind.cell) else (n, k)).lookup x = some .free
  | [], h => by cases h
  | (n, k) :: r, h => by
    have ih := @relabel_lookup_free env x r
    rw [List.map_cons]
    rw [List.lookup_cons] at h
    cases hx : x == n with
    | true =>
      rw [hx] at h
      have hk : k = .free := Option.some.inj h
      subst hk
      by_cases hc : (NameKind.free == NameKind.free && env.scope.kind == .function && env.kindOf n == some .cell) = true
      · have hc' : (if (NameKind.free == NameKind.free && env.scope.kind == .function && env.kindOf n == some .cell) = true then (n, NameKind.cell) else (n, NameKind.free)) = (n, NameKind.cell) := if_pos hc
        simp only [hc', List.lookup_cons, hx]
        exact .inl trivial
      · have hc' : (if (NameKind.free == NameKind.free && env.scope.kind == .function && env.kindOf n == some .cell) = true then (n, NameKind.cell) else (n, NameKind.free)) = (n, NameKind.free) := if_neg hc
        simp only [hc', List.lookup_cons, hx]
        exact .inr trivial
    | false =>
      rw [hx] at h
      have q := ih h
      by_cases hc : (k == NameKind.free && env.scope.kind == .function && env.kindOf n == some .cell) = true
      · have hc' : (if (k == NameKind.free && env.scope.kind == .function && env.kindOf n == some .cell) = true then (n, NameKind.cell) else (n, k)) = (n, NameKind.cell) := if_pos hc
        simp only [hc', List.lookup_cons, hx]
        exact q
      · have hc' : (if (k == NameKind.free && env.scope.kind == .function && env.kindOf n == some .cell) = true then (n, NameKind.cell) else (n, k)) = (n, k) := if_neg hc
        simp only [hc', List.lookup_cons, hx]
        exact q
theorem mem_of_lookup_free {x : Str} {k : NameKind} : ∀ {names : List (Str × NameKind)}, names.lookup x = some k → (x, k) ∈ names := fun h => PySem.mem_of_lookup h

noncomputable def Cx.comp (X : Cx) (scope : Scope) (cl : List (Str × Addr)) (C : Addr) (s₀ : Shared) (H₀ : Hp) (fp : List Addr) (N' : List Str) : Cx :=
  { prog := X.prog, w := X.w, K := X.K, mg := X.mg, base := X.base, A := X.A, N := N', s₀ := s₀, H₀ := H₀, env := compEnvC scope cl C X.env, outer := X.stack, stack := X.stack, ex := fp, fn := fun _ => false, calm := X.calm, pn := [], xe := fun _ _ => False }

structure CompScope (X : Cx) (N' : List Str) (ix : List (Option Nat)) (scope : Scope) : Prop where
  kind : scope.kind = .function
  nocell : ∀ y ∈ scope.names, y.2 ≠ .cell
  names : ∀ y ∈ scope.names, y.2 = .local → scope.names.lookup y.1 = some .local
  free : ∀ y ∈ scope.names, y.2 = .free → X.env.kindOf y.1 = some .cell ∨ X.env.kindOf y.1 = some .free
  len : ix.length = N'.length
  ixok : ∀ (i j : Nat) (x : Str), ix[i]? = some (some j) → N'[i]? = some x → X.N[j]? = some x ∧ scope.names.lookup x = some .free

noncomputable def tau (ix : List (Option Nat)) (σ : St) : St := ix.map fun o => match o with | none => none | some j => (σ[j]?).join

def tComp (ix : List (Option Nat)) (wi : TI) (g : TG) (tt : TT) (te : TE) : TE := fun σ H Q =>
  wi σ H fun J H1 => ∀ D, H1 D = none →
    ∃ W : Nat → Nat → List V → Hp → Prop, (∃ m, W 0 m [] (upd H1 D (.lst []))) ∧
    ∀ i m acc H2, W i m acc H2 → H2 D = some (.lst acc) →
      (J.stop i H2 ∧ Q (.ref D) H2) ∨
      (J.go i H2 ∧ acc.length < sizeLine ∧ ∀ x H3, J.yld i H2 x H3 → g x (tau ix σ) H3 fun τ H4 => (τ.length = ix.length ∧ ∀ (k : Nat) v, (tau ix σ)[k]? = some (some v) → τ[k]? = some (some v)) ∧
        tt τ H4 fun b H5 => if b = true then te τ H5 fun y H6 => H6 D = some (.lst acc) ∧ ∃ m', m' < m ∧ W (i + 1) m' (acc ++ [y]) (upd H6 D (.lst (acc ++ [y])))
          else H5 D = some (.lst acc) ∧ ∃ m', m' < m ∧ W (i + 1) m' acc H5)

def PTs (X : Cx) (ifs : List Expr) (t : TT) : Prop :=
  ∀ (pins : List (Addr × Obj)) (s : Shared) (σ : St) (H : Hp) (Q : Bool → Hp → Prop), Inv X pins σ H s → t σ H Q →
    wpAny (model X.prog X.w) X.A (forIn ifs true fun c r => if r = true then do let ok ← isTrue c X.env (eval c X.env); pure (ForInStep.yield ok) else pure (ForInStep.yield r)) (TP X pins σ Q) X.xe s
noncomputable def tTrue : TT := fun _ H Q => Q true H
theorem pts_nil {X : Cx} : PTs X [] tTrue := fun pins s σ H Q I h => wpAny_tests_nil ⟨H, I, h⟩
section
variable {prog : Program} {w : World} {A : Around} {R : Result → Shared → Prop} {s : Shared}
theorem compLoop_any {elt target iter : Expr} {ifs : List Expr} {scope : Scope} {pos : Pos} {it acc : Value} {env : Env} (I : Nat → Shared → Prop)
    (turn : ∀ n s, I n s → wpAny (model prog w) A (pyNext it) (fun r s₁ => match r with
      | none => R (.ok .next) s₁
      | some v => wpAny (model prog w) A (letOwnedTupleGo target it v) (fun _ s₁' => wpAny (model prog w) A (assign target env v) (fun _ s₂ =>
          wpAny (model prog w) A (forIn ifs true fun c r => if r = true then do let ok ← isTrue c env (eval c env); pure (ForInStep.yield ok) else pure (ForInStep.yield r)) (fun ok s₃ =>
            if ok = true then wpAny (model prog w) A (eval elt env) (fun x s₄ =>
              wpAny (model prog w) A (call (.builtin "list.append") [acc, x]) (fun _ s₅ => ∃ m, m < n ∧ I m s₅) (fun _ _ => False) s₄) (fun _ _ => False) s₃
            else ∃ m, m < n ∧ I m s₃) (fun _ _ => False) s₂) (fun _ _ => False) s₁') (fun _ _ => False) s₁) (fun _ _ => False) s)
    (n : Nat) (h : I n s) :
    codeAny (model prog w) A (.compLoop (.ListComp elt [⟨target, iter, ifs, 0⟩] scope pos) 0 it acc env) R s := by
  refine codeAny_loop rfl I (fun n s hI => ?_) n h
  show wpAny _ A ((compTurn (.ListComp elt [⟨target, iter, ifs, 0⟩] scope pos) 0 it acc env).onRaise (fun x => do noteFrame x env; theTreesLotGoes x)) _ _ s
  refine wpAny_noted ?_
  rw [compTurn_list]
  refine wpAny_bind (wpAny_standAt (wpAny_bind (wpAny_mono (turn n s hI) (fun r s₁ h₁ => ?_) fun _ _ h' => h'.elim)))
  cases r with
  | none => exact wpAny_pure h₁
  | some v =>
    refine wpAny_bind (wpAny_mono h₁ (fun _ s₁' h₁' => ?_) fun _ _ h' => h'.elim)
    refine wpAny_bind (wpAny_mono h₁' (fun _ s₂ h₂ => wpAny_bind (wpAny_mono h₂ (fun ok s₃ h₃ => ?_) fun _ _ h' => h'.elim)) fun _ _ h' => h'.elim)
    cases ok with
    | false => exact wpAny_pure ⟨rfl, h₃⟩
    | true =>
      exact wpAny_bind (wpAny_bind (wpAny_mono h₃ (fun x s₄ h₄ => wpAny_bind (wpAny_mono h₄ (fun _ s₅ h₅ => wpAny_pure (wpAny_pure ⟨rfl, h₅⟩)) fun _ _ h' => h'.elim)) fun _ _ h' => h'.elim))
end
section
variable {X : Cx}
theorem comp_start {pins : List (Addr × Obj)} {σ : St} {H1 : Hp} {s2 : Shared} {N' : List Str} {ix : List (Option Nat)} {scope : Scope} {fp : List Addr} {h₁ : Heap}
    (S : CompScope X N' ix scope) (I : Inv X pins σ H1 s2) (f2 : ∀ b ∈ fp, FpOk X pins H1 b) (hfp : ∀ b ∈ fp, b < s2.heap.objs.size)
    (hns : h₁.Ns (s2.heap.objs.size + 1) (fun x => ([] : List (Str × Value)).reverse.lookup x))
    (hsb : Heap.SameBut (s2.heap.objs.size + 1) ((s2.heap.push { cls := .type "list", dict := none, data := .seq ([] : List Value).toArray }).push { cls := .type "dict", data := .dict #[] }) h₁) (tk : Nat) :
    Inv (X.comp scope (clOf X.env.cells scope.names []) (s2.heap.objs.size + 1) { s2 with heap := s2.heap.push { cls := .type "list", dict := none, data := .seq ([] : List Value).toArray } } (upd H1 s2.heap.objs.size (.lst [])) fp N') [] (tau ix σ)
      (upd H1 s2.heap.objs.size (.lst [])) { s2 with heap := h₁, toks := tk } := by
  have hfr : ∀ y ∈ scope.names, y.2 = .free → ∃ c, X.env.cells.lookup y.1 = some c := fun y hy e => I.ok.has _ (S.free y hy e)
  have fwd : ∀ x c, (clOf X.env.cells scope.names []).lookup x = some c → X.env.cells.lookup x = some c := fun x c h => clOf_fwd hfr (fun z hz => by cases hz) h
  have I3 : Inv X pins σ (upd H1 s2.heap.objs.size (.lst [])) { s2 with heap := s2.heap.push { cls := .type "list", dict := none, data := .seq ([] : List Value).toArray } } := I.lnew (t' := s2.toks) (ys := []) .nil (Nat.zero_le _)
  have sz3 : (s2.heap.push { cls := .type "list", dict := none, data := .seq ([] : List Value).toArray }).objs.size = s2.heap.objs.size + 1 := Heap.size_push ..
  have old : ∀ b o, (s2.heap.push { cls := .type "list", dict := none, data := .seq ([] : List Value).toArray }).get? b = some o → h₁.get? b = some o := fun b o e =>
    hsb.extBut b o (by have := Heap.lt_size e; rw [sz3] at this; exact Nat.ne_of_lt this) (Heap.get?_push_of_some _ e)
  have ncell : ∀ x c, X.env.cells.lookup x = some c → c < s2.heap.objs.size := fun x c e => by
    obtain ⟨v, z⟩ := I.cell x c e
    exact z.lt
  refine ⟨⟨I.ok.mod, ?_, I.ok.glob, I.ok.blt, ?_, fun x y c h1 h2 => I.ok.inj x y c (fwd x c h1) (fwd y c h2), fun x hx => ?_, fun _ _ h => (nomatch h), I.ok.hd, I.ok.frames, .inl rfl, fun b hb => ⟨?_, fun x c e => ?_⟩, fun b o e => I3.bs b o e, ?_, fun b o e hb => ?_, fun b hb => ?_, I3.stack, I3.stkFree⟩,
    rfl, I.bare, Un.kept old, ⟨_, hns, fun i x v h1 h2 h3 => ?_⟩, fun x c e => ?_, ?_, fun x c e => ?_, fun p hp => absurd (show p ∈ ([] : List (Addr × Obj)) from hp) (by simp), I3.hok.kept old, ?_⟩
  · show (relabel scope X.env).kind = .function
    exact S.kind
  · show (s2.heap.push { cls := .type "list", dict := none, data := .seq ([] : List Value).toArray }).objs.size ≤ s2.heap.objs.size + 1
    rw [sz3]; exact Nat.le_refl _
  · have hx' : (x, NameKind.free) ∈ scope.names := relabel_free (env := X.env) S.nocell hx
    obtain ⟨c, hc⟩ := hfr _ hx' rfl
    exact ⟨c, clOf_acc hc (.inl hx')⟩
  · show b ≠ s2.heap.objs.size + 1
    exact Nat.ne_of_lt (Nat.lt_succ_of_lt (hfp b hb))
  · exact (f2 b hb).2.2.2.2.1 x c (fwd x c e)
  · show X.base.objs.size ≤ (s2.heap.push { cls := .type "list", dict := none, data := .seq ([] : List Value).toArray }).objs.size
    rw [sz3]
    exact Nat.le_succ_of_le (Nat.le_trans I.ok.bsz I.sz)
  · rcases (f2 b hb).2.2.2.1 with z | z
    · exact I.ok.noex b o e z
    · exact absurd (Nat.lt_of_lt_of_le (Heap.lt_size e) (Nat.le_trans I.ok.bsz z)) (Nat.lt_irrefl _)
  · intro hm
    rcases List.mem_cons.mp (I.stkSub b hm) with z | z
    · exact (f2 b hb).2.1 z
    · exact (f2 b hb).2.2.1 z
  · have hi : ∃ j, ix[i]? = some (some j) ∧ σ[j]? = some (some v) := by
      unfold tau at h2
      rw [List.getElem?_map] at h2
      cases e : ix[i]? with
      | none => rw [e] at h2; cases h2
      | some o =>
        rw [e] at h2
        cases o with
        | none => cases h2
        | some j =>
          refine ⟨j, rfl, ?_⟩
          have h2' : (σ[j]?).join = some v := Option.some.inj h2
          cases e2 : σ[j]? with
          | none => rw [e2] at h2'; cases h2'
          | some q => rw [e2] at h2'; exact congrArg some h2'
    obtain ⟨j, hj, hσ⟩ := hi
    obtain ⟨hN, hfree⟩ := S.ixok i j x hj h1
    have hmem : (x, NameKind.free) ∈ scope.names := mem_of_lookup_free hfree
    have hk := S.free _ hmem rfl
    obtain ⟨m, hn, hl⟩ := I3.loc
    obtain ⟨u, r, l⟩ := hl j x v hN hσ (by rcases hk with k | k; exact .inr (.inl k); exact .inr (.inr k))
    refine ⟨u, r, ?_⟩
    rcases l with ⟨k, _⟩ | ⟨_, c, hc, z⟩
    · rcases hk with q | q
      · rw [show X.env.kindOf x = some .cell from q] at k; cases k
      · rw [show X.env.kindOf x = some .free from q] at k; cases k
    · refine .inr ⟨?_, c, clOf_acc hc (.inl hmem), z.keeps old⟩
      exact relabel_lookup_free (env := X.env) hfree
  · obtain ⟨v, z⟩ := I3.cell x c (fwd x c e)
    exact ⟨v, z.keeps old⟩
  · show (upd H1 s2.heap.objs.size (.lst [])) (s2.heap.objs.size + 1) = none
    rw [upd_ne (Nat.succ_ne_self _)]
    exact I.hok.fresh (Nat.le_succ _)
  · exact I3.freeC x c (fwd x c e)
  · show (tau ix σ).length = N'.length
    unfold tau
    rw [List.length_map]
    exact S.len

theorem comp_block {pins : List (Addr × Obj)} {σ : St} {H1 : Hp} {s2 : Shared} {N' : List Str} {ix : List (Option Nat)} {scope : Scope} {fp : List Addr} {it : Addr} {tn : Nat → Heap → Prop} {J : It}
    {elt tg iter : Expr} {ifs : List Expr} {pos : Pos} {g : TG} {tt : TT} {te : TE} {Q : VK} {RR : Value → Addr → Result → Shared → Prop}
    (S : CompScope X N' ix scope) (hcalm : X.calm = true) (I : Inv X pins σ H1 s2) (T : Turn X.prog X.w X.K tg J fp it tn) (st : tn 0 s2.heap) (f2 : ∀ b ∈ fp, FpOk X pins H1 b)
    (hg : ∀ C s₀ H₀, PG (X.comp scope (clOf X.env.cells scope.names []) C s₀ H₀ fp N') tg g)
    (ht : ∀ C s₀ H₀, PTs (X.comp scope (clOf X.env.cells scope.names []) C s₀ H₀ fp N') ifs tt)
    (he : ∀ C s₀ H₀, PE (X.comp scope (clOf X.env.cells scope.names []) C s₀ H₀ fp N') elt te)
    (h : ∀ D, H1 D = none →
      ∃ W : Nat → Nat → List V → Hp → Prop, (∃ m, W 0 m [] (upd H1 D (.lst []))) ∧
      ∀ i m acc H2, W i m acc H2 → H2 D = some (.lst acc) →
        (J.stop i H2 ∧ Q (.ref D) H2) ∨
        (J.go i H2 ∧ acc.length < sizeLine ∧ ∀ x H3, J.yld i H2 x H3 → g x (tau ix σ) H3 fun τ H4 => (τ.length = ix.length ∧ ∀ (k : Nat) v, (tau ix σ)[k]? = some (some v) → τ[k]? = some (some v)) ∧
          tt τ H4 fun b H5 => if b = true then te τ H5 fun y H6 => H6 D = some (.lst acc) ∧ ∃ m', m' < m ∧ W (i + 1) m' (acc ++ [y]) (upd H6 D (.lst (acc ++ [y])))
            else H5 D = some (.lst acc) ∧ ∃ m', m' < m ∧ W (i + 1) m' acc H5))
    (hRR : ∀ D C s' H', Inv X pins σ H' s' → Q (.ref D) H' → (∃ m, s'.heap.Ns C m) → H' C = none → C ≠ X.env.locals → X.s₀.heap.objs.size ≤ C → (∀ x c, X.env.cells.lookup x = some c → c ≠ C) → (∀ p ∈ X.pn ++ pins, p.1 ≠ C) → RR (.ref D) C (.ok .next) s') :
    wpAny (model X.prog X.w) X.A (newList []) (fun acc s₃ => wpAny (model X.prog X.w) X.A (newFunctionEnv scope X.env.globals (clOf X.env.cells scope.names []) [] X.env.qual none .none (some X.env)) (fun cenv s₄ =>
      codeAny (model X.prog X.w) X.A (.compStart (.ListComp elt [⟨tg, iter, ifs, 0⟩] scope pos) 0 (.ref it) acc { cenv with scope := relabel scope X.env }) (RR acc cenv.locals) s₄) X.xe s₃) X.xe s2 := by
  have hfp : ∀ b ∈ fp, b < s2.heap.objs.size := fun b hb => by
    obtain ⟨o, e, _⟩ := T.obj _ _ st b hb
    exact Heap.lt_size e
  refine wpAny_newObj_type (wpAny_newFunctionEnv S.nocell (by intro y hy; simp at hy) (fun h₁ hns₁ hsb₁ => ?_) S.kind)
  have sz3 : (s2.heap.push { cls := .type "list", dict := none, data := .seq ([] : List Value).toArray }).objs.size = s2.heap.objs.size + 1 := Heap.size_push ..
  dsimp only at hns₁ hsb₁ ⊢
  rw [sz3] at hns₁ hsb₁ ⊢
  obtain ⟨W, ⟨m0, w0⟩, turn⟩ := h s2.heap.objs.size (I.hok.fresh (Nat.le_refl _))
  have I4 := comp_start (N' := N') (ix := ix) (fp := fp) S I f2 hfp hns₁ hsb₁ (s2.toks + ([] : List (Str × Value)).length)
  generalize hX' : X.comp scope (clOf X.env.cells scope.names []) (s2.heap.objs.size + 1) { s2 with heap := s2.heap.push { cls := .type "list", dict := none, data := .seq ([] : List Value).toArray } } (upd H1 s2.heap.objs.size (.lst [])) fp N' = X' at I4
  have old : ∀ b o, s2.heap.get? b = some o → h₁.get? b = some o := fun b o e =>
    hsb₁.extBut b o (Nat.ne_of_lt (Nat.lt_succ_of_lt (Heap.lt_size e))) (Heap.get?_push_of_some _ (Heap.get?_push_of_some _ e))
  have st4 : tn 0 h₁ := T.keep _ _ _ st fun b _ o e => old b o e
  have n4 : ∀ b ∈ fp, (upd H1 s2.heap.objs.size (.lst [])) b = none := fun b hb => by rw [upd_ne (Nat.ne_of_lt (hfp b hb))]; exact (f2 b hb).1
  have stat : ∀ {H' : Hp}, (∀ b ∈ fp, H' b = none) → ∀ b ∈ fp, FpOk X' [] H' b := fun {H'} hn b hb => by
    subst hX'
    refine ⟨hn b hb, Nat.ne_of_lt (Nat.lt_succ_of_lt (hfp b hb)), fun hm => ?_, .inl hb, fun x c e => ?_, fun p hp => absurd (show p ∈ ([] : List (Addr × Obj)) from hp) (by simp)⟩
    · rcases List.mem_cons.mp (I.stkSub b hm) with z | z
      · exact (f2 b hb).2.1 z
      · exact (f2 b hb).2.2.1 z
    · exact (f2 b hb).2.2.2.2.1 x c (clOf_fwd (fun y hy e => I.ok.has _ (S.free y hy e)) (fun z hz => by cases hz) e)
  have loop : ∀ s₄ : Shared, s₄ = { s2 with heap := h₁, toks := s2.toks + ([] : List (Str × Value)).length } →
      codeAny (model X.prog X.w) X.A (.compLoop (.ListComp elt [⟨tg, iter, ifs, 0⟩] scope pos) 0 (.ref it) (.ref s2.heap.objs.size) (compEnvC scope (clOf X.env.cells scope.names []) (s2.heap.objs.size + 1) X.env)) (RR (.ref s2.heap.objs.size) (s2.heap.objs.size + 1)) s₄ := by
    rintro s₄ rfl
    refine compLoop_any (fun n s' => ∃ i acc H', Inv X' [] (tau ix σ) H' s' ∧ tn i s'.heap ∧ (∀ b ∈ fp, H' b = none) ∧ H' s2.heap.objs.size = some (.lst acc) ∧ W i n acc H') ?_ m0
      ⟨0, [], _, I4, st4, n4, upd_same, w0⟩
    rintro n s5 ⟨i, acc, H5, I5, st5, fr5, hD5, w5⟩
    have pE : X'.prog = X.prog := by subst hX'; rfl
    have wE : X'.w = X.w := by subst hX'; rfl
    have kE : X'.K = X.K := by subst hX'; rfl
    have aE : X'.A = X.A := by subst hX'; rfl
    have cE : X'.calm = true := by subst hX'; exact hcalm
    rcases turn i n acc H5 w5 hD5 with ⟨stop, q⟩ | ⟨go, hz, step⟩
    · have z := T.done X' pE wE kE cE i [] s5 (tau ix σ) H5 (fun _ _ => False) I5 (stat fr5) st5 stop
      rw [aE] at z
      refine thn z ?_
      rintro r s6 ⟨hr, I6⟩
      subst hr
      have I6' := I6
      subst hX'
      have bs6 := I6.base
      have un : Un (frs X.stack) fp H1 H5 s2.heap s6.heap := Un.trans (Un.laid (o := .lst []) (fun b u q => Heap.get?_push_of_some _ q) (Nat.le_refl _) (I.hok.fresh (Nat.le_refl _))) bs6
      have IX : Inv X pins σ H5 s6 := Inv.call' I I6.os un I6.hok I6.bare fun b hb => ⟨(f2 b hb).2.2.2.1, (f2 b hb).2.1, (f2 b hb).2.2.2.2.1, (f2 b hb).2.2.2.2.2⟩
      refine hRR _ _ s6 H5 IX q ?_ I6.free ?_ ?_ ?_ ?_
      · obtain ⟨m, hn, _⟩ := I6.loc
        exact ⟨m, hn⟩
      · exact Nat.ne_of_gt (Nat.lt_succ_of_lt I.lt)
      · exact Nat.le_succ_of_le I.sz
      · intro x c e
        obtain ⟨v, z⟩ := I.cell x c e
        exact Nat.ne_of_lt (Nat.lt_succ_of_lt z.lt)
      · intro p hp
        exact Nat.ne_of_lt (Nat.lt_succ_of_lt (Heap.lt_size (I.pin p hp).1))
    · have z := T.item X' pE wE kE cE i [] s5 (tau ix σ) H5 (fun _ _ => False) I5 (stat fr5) st5 go
      rw [aE] at z
      refine thn z ?_
      rintro r s6 ⟨u, hr, h6⟩
      subst hr
      refine thn h6 ?_
      rintro _ s7 ⟨x, H7, I7, r7, y7, st7, fr7⟩
      have I7' := I7.pinned (stat fr7) (T.obj _ _ st7)
      have hg' := hg (s2.heap.objs.size + 1) { s2 with heap := s2.heap.push { cls := .type "list", dict := none, data := .seq ([] : List Value).toArray } } (upd H1 s2.heap.objs.size (.lst []))
      have ht' := ht (s2.heap.objs.size + 1) { s2 with heap := s2.heap.push { cls := .type "list", dict := none, data := .seq ([] : List Value).toArray } } (upd H1 s2.heap.objs.size (.lst []))
      have he' := he (s2.heap.objs.size + 1) { s2 with heap := s2.heap.push { cls := .type "list", dict := none, data := .seq ([] : List Value).toArray } } (upd H1 s2.heap.objs.size (.lst []))
      subst hX'
      have back : ∀ {τ : St} {H8 : Hp} {s8 : Shared}, (τ.length = ix.length ∧ ∀ (k : Nat) v, (tau ix σ)[k]? = some (some v) → τ[k]? = some (some v)) →
          Inv (X.comp scope (clOf X.env.cells scope.names []) (s2.heap.objs.size + 1) { s2 with heap := s2.heap.push { cls := .type "list", dict := none, data := .seq ([] : List Value).toArray } } (upd H1 s2.heap.objs.size (.lst [])) fp N') ([] ++ pinsAt fp s7.heap) τ H8 s8 →
          ∀ {acc' : List V} {m' : Nat}, H8 s2.heap.objs.size = some (.lst acc') → W (i + 1) m' acc' H8 → m' < n →
          ∃ m, m < n ∧ ∃ i acc H', Inv (X.comp scope (clOf X.env.cells scope.names []) (s2.heap.objs.size + 1) { s2 with heap := s2.heap.push { cls := .type "list", dict := none, data := .seq ([] : List Value).toArray } } (upd H1 s2.heap.objs.size (.lst [])) fp N') [] (tau ix σ) H' s8 ∧ tn i s8.heap ∧ (∀ b ∈ fp, H' b = none) ∧ H' s2.heap.objs.size = some (.lst acc) ∧ W i m acc H' := fun {τ H8 s8} hτ I8 {acc' m'} hD8 w8 hm => by
        refine ⟨m', hm, i + 1, acc', H8, (Inv.unpinned I8).weak (by rw [hτ.1]; unfold tau; rw [List.length_map]) hτ.2, T.keep _ _ _ st7 fun b hb o e => (I8.pin (b, o) (List.mem_append_right _ (List.mem_append_right _ (mem_pinsAt hb e)))).1, fun b hb => ?_, hD8, w8⟩
        obtain ⟨o, e, d⟩ := T.obj _ _ st7 b hb
        exact (I8.pin (b, o) (List.mem_append_right _ (List.mem_append_right _ (mem_pinsAt hb e)))).2.1
      refine thn (hg' _ s7 (tau ix σ) H7 x u _ I7' r7 (step x H7 y7)) ?_
      rintro _ s8 ⟨τ, H8, I8, hτ, q8⟩
      refine thn (ht' _ s8 τ H8 _ I8 q8) ?_
      rintro b s9 ⟨H9, I9, q9⟩
      cases b with
      | false =>
        obtain ⟨hD9, m', hm, w9⟩ := q9
        exact back hτ I9 hD9 w9 hm
      | true =>
        refine thn (he' _ s9 τ H9 _ I9 q9) ?_
        rintro yv s10 ⟨y, H10, I10, r10, hD10, m', hm, w10⟩
        refine thn (mt_append _ s10 τ H10 (.ref s2.heap.objs.size) [y] (.ref s2.heap.objs.size) [yv] (fun v H => v = .non ∧ H = upd H10 s2.heap.objs.size (.lst (acc ++ [y]))) I10 rfl (.cons r10 .nil) ⟨_, acc, y, rfl, rfl, hD10, hz, rfl, rfl⟩) ?_
        rintro _ s11 ⟨v, H11, I11, r11, hv, hH⟩
        subst hH
        exact back hτ I11 upd_same w10 hm
  exact codeAny_compStart_list (loop _ rfl) (T.self _ 0 _ _ _ st4 (loop _ rfl))

theorem pe_comp {elt tg iter : Expr} {ifs : List Expr} {scope : Scope} {pos : Pos} {N' : List Str} {ix : List (Option Nat)} {wi : TI} {g : TG} {tt : TT} {te : TE}
    (S : CompScope X N' ix scope) (hcalm : X.calm = true) (hi : PI X tg iter wi)
    (hg : ∀ C s₀ H₀ fp, PG (X.comp scope (clOf X.env.cells scope.names []) C s₀ H₀ fp N') tg g)
    (ht : ∀ C s₀ H₀ fp, PTs (X.comp scope (clOf X.env.cells scope.names []) C s₀ H₀ fp N') ifs tt)
    (he : ∀ C s₀ H₀ fp, PE (X.comp scope (clOf X.env.cells scope.names []) C s₀ H₀ fp N') elt te)
    (hs : ∀ x, foldedSetIterable iter X.env x = pure x := by intro _; rfl) :
    PE X (.ListComp elt [⟨tg, iter, ifs, 0⟩] scope pos) (tComp ix wi g tt te) := by
  intro pins s σ H Q I h
  rw [eval_ListComp]
  refine wpAny_comprehension_free (use := none) rfl hs (closure_of fun y hy e => I.ok.has _ (S.free y hy e)) S.kind S.names (thn (hi pins s σ H _ I h) fun v s1 h1 => thn h1 fun itv s2 h2 => ?_)
  obtain ⟨it, fp, tn, J, H2, e, I2, T, st2, f2, hW⟩ := h2
  subst e
  refine comp_block (RR := fun acc C => compPost (model X.prog X.w) X.A X.xe none (EP X pins σ Q) acc C) S hcalm I2 T st2 f2 (fun C s₀ H₀ => hg C s₀ H₀ fp) (fun C s₀ H₀ => ht C s₀ H₀ fp) (fun C s₀ H₀ => he C s₀ H₀ fp) hW ?_
  intro D C s' H' I' q hn hC hL h1 h2 h3
  obtain ⟨m, hn⟩ := hn
  refine ⟨m, hn, fun h' hs' => ?_⟩
  have I'' : Inv X pins σ H' { s' with heap := h' } := I'.turned (t' := s'.toks) (fun b o hb e => hs'.extBut b o hb e) hC hL.symm.symm (.inr h1) h2 h3
  exact ⟨.ref D, H', I'', rfl, q⟩

theorem ps_setC {elt tg iter : Expr} {ifs : List Expr} {scope : Scope} {pos pos' spos : Pos} {N' : List Str} {ix : List (Option Nat)} {wi : TI} {g : TG} {tt : TT} {te : TE} {k : Nat} {x : Str}
    (hN : X.N.Nodup) (hk : X.N[k]? = some x) (hx : X.env.scope.names.lookup x = some .local)
    (S : CompScope X N' ix scope) (hcalm : X.calm = true) (hi : PI X tg iter wi)
    (hg : ∀ C s₀ H₀ fp, PG (X.comp scope (clOf X.env.cells scope.names []) C s₀ H₀ fp N') tg g)
    (ht : ∀ C s₀ H₀ fp, PTs (X.comp scope (clOf X.env.cells scope.names []) C s₀ H₀ fp N') ifs tt)
    (he : ∀ C s₀ H₀ fp, PE (X.comp scope (clOf X.env.cells scope.names []) C s₀ H₀ fp N') elt te)
    (hsw : swapsWith (.ListComp elt [⟨tg, iter, ifs, 0⟩] scope pos) (some (.Name x pos')) spos.line X.env = pure true)
    (hs : ∀ x, foldedSetIterable iter X.env x = pure x := by intro _; rfl) :
    PS X (.Assign [.Name x pos'] (.ListComp elt [⟨tg, iter, ifs, 0⟩] scope pos) spos) (tAsg (tComp ix wi g tt te) (gName k)) := by
  intro pins s σ H D I h
  rw [exec_Assign_Name_used _ _ _ _ hsw]
  refine wpAny_bind (wpAny_standAt (wpAny_bind ?_))
  show wpAny _ _ (do let _ ← comprehension (.ListComp elt [⟨tg, iter, ifs, 0⟩] scope pos) scope X.env _ (newList []) false (eval iter X.env) (some (assign (.Name x pos') X.env))) _ _ s
  refine wpAny_bind (wpAny_mono (wpAny_comprehension_free (use := some (assign (.Name x pos') X.env)) (Q := fun _ s' => SP X pins D .next s') rfl hs (closure_of fun y hy e => I.ok.has _ (S.free y hy e)) S.kind S.names
    (thn (hi pins s σ H _ I h) fun v s1 h1 => thn h1 fun itv s2 h2 => ?_)) (fun _ s' hq => wpAny_pure (wpAny_pure hq)) fun _ _ e => e)
  obtain ⟨it, fp, tn, J, H2, e, I2, T, st2, f2, hW⟩ := h2
  subst e
  refine comp_block (RR := fun acc C => compPost (model X.prog X.w) X.A X.xe (some (assign (.Name x pos') X.env)) (fun _ s' => SP X pins D .next s') acc C) (Q := fun x H1 => gName k x σ H1 D.nx) S hcalm I2 T st2 f2 (fun C s₀ H₀ => hg C s₀ H₀ fp) (fun C s₀ H₀ => ht C s₀ H₀ fp) (fun C s₀ H₀ => he C s₀ H₀ fp) hW ?_
  intro Dd C s' H' I' q hn hC hL h1 h2 h3
  obtain ⟨m, hn⟩ := hn
  show wpAny _ _ (assign (.Name x pos') X.env (.ref Dd)) _ _ _
  refine wpAny_assign_Name (store_ok2 I' hN hk (.inl hx) (v := .ref Dd) rfl (fun s'' I'' hsame => ?_) (.inr hx))
  obtain ⟨a, hsb, ha⟩ := hsame
  have haC : C ≠ a := by
    rcases ha with z | z
    · rw [z]; exact hL
    · exact fun e => h2 x a z e.symm
  refine ⟨m, hn.sameBut hsb haC, fun h' hs' => ?_⟩
  have I3 : Inv X pins (σ.set k (some (.ref Dd))) H' { s'' with heap := h' } := I''.turned (t' := s''.toks) (fun b o hb e => hs'.extBut b o hb e) hC hL (.inr h1) h2 h3
  exact ⟨_, H', I3, q⟩
end
end L2
set_option Elab.async false
set_option linter.all false
set_option maxRecDepth 100000
namespace L2
open PySem PySem.Spec PyProof.Rows
section
variable {X : Cx} {a b : Expr} {ta tb : TE} {pos : Pos}
theorem op_le_str : OpR X (compareOp .LtE) (fun x y H Q => ∃ i j, x = .str i ∧ y = .str j ∧ Q (.bl (!decide (j.cps.toList < i.cps.toList))) H) := by
  intro pins s σ H x y v u Q I rx ry h
  obtain ⟨i, j, rfl, rfl, q⟩ := h
  obtain ⟨t, rfl⟩ := rx
  obtain ⟨t', rfl⟩ := ry
  exact PySem.P.le_str ⟨.bl _, H, I, rfl, q⟩
theorem op_gt_str : OpR X (compareOp .Gt) (fun x y H Q => ∃ i j, x = .str i ∧ y = .str j ∧ Q (.bl (decide (j.cps.toList < i.cps.toList))) H) := by
  intro pins s σ H x y v u Q I rx ry h
  obtain ⟨i, j, rfl, rfl, q⟩ := h
  obtain ⟨t, rfl⟩ := rx
  obtain ⟨t', rfl⟩ := ry
  exact PySem.P.gt_str ⟨.bl _, H, I, rfl, q⟩
theorem op_ge_str : OpR X (compareOp .GtE) (fun x y H Q => ∃ i j, x = .str i ∧ y = .str j ∧ Q (.bl (!decide (i.cps.toList < j.cps.toList))) H) := by
  intro pins s σ H x y v u Q I rx ry h
  obtain ⟨i, j, rfl, rfl, q⟩ := h
  obtain ⟨t, rfl⟩ := rx
  obtain ⟨t', rfl⟩ := ry
  exact PySem.P.ge_str ⟨.bl _, H, I, rfl, q⟩
theorem op_is_bl : OpR X (compareOp .Is) (fun x y H Q => ∃ i j, x = .bl i ∧ y = .bl j ∧ Q (.bl (i == j)) H) := by
  intro pins s σ H x y v u Q I rx ry h
  obtain ⟨i, j, rfl, rfl, q⟩ := h
  cases rx
  cases ry
  exact is_bool ⟨.bl _, H, I, rfl, q⟩
theorem op_mul_str : OpR X (binaryOp .Mult) (fun x y H Q => ∃ i j, x = .str i ∧ y = .int j ∧ (i.length ≤ 16 ∧ 0 ≤ j ∧ j ≤ 1000) ∧ Q (.str (Txt.mul i j)) H) := by
  intro pins s σ H x y v u Q I rx ry h
  obtain ⟨i, j, rfl, rfl, ⟨h1, h2, h3⟩, q⟩ := h
  obtain ⟨t, rfl⟩ := rx
  obtain ⟨t', rfl⟩ := ry
  exact SB.mul (mulOk_of 16 1000 h1 (by omega) (by omega) (by decide) (by decide)) fun t' k => ⟨.str _, H, I.tok _, ⟨_, rfl⟩, q⟩

theorem range_all {n : Nat} {bs : List Bool} (hn : bs.length = n) : (List.range n).all (fun i => bs.getD i true) = bs.all id := by
  subst hn
  rw [Bool.eq_iff_iff, List.all_eq_true, List.all_eq_true]
  constructor
  · intro h x hx
    obtain ⟨i, hi, rfl⟩ := List.mem_iff_getElem.mp hx
    have := h i (List.mem_range.mpr hi)
    simpa [List.getD_eq_getElem?_getD, hi] using this
  · intro h i hi
    have hi' := List.mem_range.mp hi
    have := h _ (List.getElem_mem hi')
    simpa [List.getD_eq_getElem?_getD, hi'] using this
theorem vals_bl {bs : List Bool} : ∀ {us : List Value}, Vals (bs.map V.bl) us → us = bs.map Value.bool := by
  induction bs with
  | nil => intro us r; cases r; rfl
  | cons b bs ih => intro us r; cases r with | cons r1 r2 => rw [ih r2, show _ = Value.bool b from r1]; rfl
theorem call_all (hc : X.calm = true) : CallR X (.builtin "all") (fun xs H Q => ∃ (p : Addr) (bs : List Bool), xs = [.ref p] ∧ H p = some (.lst (bs.map V.bl)) ∧ Q (.bl (bs.all id)) H) := by
  intro pins s σ H xs us Q I r h
  obtain ⟨p, bs, e, hp, q⟩ := h
  subst e
  obtain ⟨u, rfl, ru⟩ := vals1 r
  obtain rfl : u = Value.ref p := ru
  obtain ⟨z, its, n, rv, hl, ho⟩ := I.lstM hp
  have ei := vals_bl rv
  have hI : s.heap.IsList p its.toArray := ⟨_, ho, rfl, n, rfl⟩
  have hne : p ≠ s.heap.objs.size := Nat.ne_of_lt (Heap.lt_size ho)
  refine call_all_walk (wpAny_pyIter_list hI ?_)
  refine ⟨s.heap.objs.size, _, _, _, _, _, fun i => bs.getD i true, rfl, Walks.list (A := X.A.in1) (I.ok.hd hc) s.heap.objs.size p hne its.toArray, ⟨⟨_, Heap.get?_push_size _ rfl, rfl, rfl⟩, ⟨_, Heap.get?_push_of_some _ ho, rfl, n, rfl⟩⟩, ?_, fun h' tk hk => ?_⟩
  · intro i v s' Q' E' hP hQ
    have hP' : its[i]? = some v := by simpa using hP
    rw [ei, List.getElem?_map] at hP'
    cases e : bs[i]? with
    | none => rw [e] at hP'; cases hP'
    | some b' =>
      rw [e] at hP'
      have ev : Value.bool b' = v := Option.some.inj hP'
      subst ev
      refine wpAny_truthy_bool ?_
      have : bs.getD i true = b' := by simp [List.getD_eq_getElem?_getD, e]
      dsimp only at hQ
      rw [this] at hQ
      exact hQ
  · rw [range_all (by rw [List.size_toArray, ei, List.length_map])]
    refine ⟨.bl _, H, ?_, rfl, q⟩
    exact I.kept (h' := h') (t' := tk) fun b o e => hk b o (by simp; exact Nat.ne_of_lt (Heap.lt_size e)) (Heap.get?_push_of_some _ e)
noncomputable def Its (x : Str) : It := ⟨fun i _ => i < x.cps.size, fun i H v H' => H' = H ∧ ∃ c, x.cps[i]? = some c ∧ v = .str ⟨#[c]⟩, fun i _ => x.cps.size ≤ i⟩
def iStr (tl : TE) : TI := fun σ H R => tl σ H fun x H1 => ∃ z, x = .str z ∧ R (Its z) H1

theorem turn_strA {P : Program} {w : World} {K : PySem.W.Frag} {tg : Expr} (it : Addr) (x : Str) (t : Tok) : Turn P w K tg (Its x) [it] it (fun i h => h.IsStrIter it "str_ascii_iterator" x t i) where
  mem := by simp
  obj := fun i h st b hb => by
    have e : b = it := by simpa using hb
    subst e
    obtain ⟨o, e, c, d⟩ := st
    exact ⟨o, e, fun v z => by rw [d] at z; cases z⟩
  keep := fun i h h' st k => by obtain ⟨o, e, r⟩ := st; exact ⟨o, k it (by simp) o e, r⟩
  item := by
    intro X hP hw hK hc i pins s σ H E I hf st hg
    subst hP hw hK
    have hg' : i < x.cps.size := hg
    obtain ⟨f0, f1, f2, f3, f4, f5⟩ := hf it (by simp)
    refine wpAny_pyNext_ascii_item st (c := x.cps[i]) (by simp [hg']) fun h' st' sb => ?_
    have I1 : Inv X pins σ H { s with heap := h', toks := s.toks + 1 } := I.turned (fun b o hb e => (sb.2 b hb).trans e) f0 f1 f3 f4 f5
    refine ⟨_, rfl, ?_⟩
    have fin : ∃ y H', Inv X pins σ H' { s with heap := h', toks := s.toks + 1 } ∧ RelV y (.str ⟨#[x.cps[i]]⟩ s.toks) ∧ (Its x).yld i H y H' ∧ h'.IsStrIter it "str_ascii_iterator" x t (i + 1) ∧ ∀ b ∈ [it], H' b = none :=
      ⟨.str ⟨#[x.cps[i]]⟩, H, I1, ⟨_, rfl⟩, ⟨rfl, x.cps[i], by simp [hg'], rfl⟩, st', fun b hb => (hf b hb).1⟩
    unfold letOwnedTupleGo
    cases tg <;> exact wpAny_pure fin
  done := by
    intro X hP hw hK hc i pins s σ H E I hf st hg
    subst hP hw hK
    have hg' : x.cps.size ≤ i := hg
    obtain ⟨f0, f1, f2, f3, f4, f5⟩ := hf it (by simp)
    exact wpAny_pyNext_ascii_end (I.ok.hd hc) st (by simp [hg']) fun h' eb => ⟨rfl, I.turned (t' := s.toks) (fun b o hb e => eb b o hb e) f0 f1 f3 f4 f5⟩
  self := fun _ _ _ _ _ st h => wpAny_pyIter_striter_ascii st h
theorem turn_strW {P : Program} {w : World} {K : PySem.W.Frag} {tg : Expr} (it : Addr) (x : Str) (t : Tok) : Turn P w K tg (Its x) [it] it (fun i h => h.IsStrIter it "str_iterator" x t i) where
  mem := by simp
  obj := fun i h st b hb => by
    have e : b = it := by simpa using hb
    subst e
    obtain ⟨o, e, c, d⟩ := st
    exact ⟨o, e, fun v z => by rw [d] at z; cases z⟩
  keep := fun i h h' st k => by obtain ⟨o, e, r⟩ := st; exact ⟨o, k it (by simp) o e, r⟩
  item := by
    intro X hP hw hK hc i pins s σ H E I hf st hg
    subst hP hw hK
    have hg' : i < x.cps.size := hg
    obtain ⟨f0, f1, f2, f3, f4, f5⟩ := hf it (by simp)
    refine wpAny_pyNext_wide_item st (c := x.cps[i]) (by simp [hg']) fun h' st' sb => ?_
    have I1 : Inv X pins σ H { s with heap := h', toks := s.toks + 1 } := I.turned (fun b o hb e => (sb.2 b hb).trans e) f0 f1 f3 f4 f5
    refine ⟨_, rfl, ?_⟩
    have fin : ∃ y H', Inv X pins σ H' { s with heap := h', toks := s.toks + 1 } ∧ RelV y (.str ⟨#[x.cps[i]]⟩ s.toks) ∧ (Its x).yld i H y H' ∧ h'.IsStrIter it "str_iterator" x t (i + 1) ∧ ∀ b ∈ [it], H' b = none :=
      ⟨.str ⟨#[x.cps[i]]⟩, H, I1, ⟨_, rfl⟩, ⟨rfl, x.cps[i], by simp [hg'], rfl⟩, st', fun b hb => (hf b hb).1⟩
    unfold letOwnedTupleGo
    cases tg <;> exact wpAny_pure fin
  done := by
    intro X hP hw hK hc i pins s σ H E I hf st hg
    subst hP hw hK
    have hg' : x.cps.size ≤ i := hg
    obtain ⟨f0, f1, f2, f3, f4, f5⟩ := hf it (by simp)
    exact wpAny_pyNext_wide_end (I.ok.hd hc) st (by simp [hg']) fun h' eb => ⟨rfl, I.turned (t' := s.toks) (fun b o hb e => eb b o hb e) f0 f1 f3 f4 f5⟩
  self := fun _ _ _ _ _ st h => wpAny_pyIter_striter_wide st h
theorem pi_str {l tg : Expr} {tl : TE} (hl : PE X l tl) : PI X tg l (iStr tl) := by
  intro pins s σ H R I h
  refine thn (hl pins s σ H _ I h) ?_
  rintro v s1 ⟨x, H1, I1, r1, q1⟩
  obtain ⟨z, e, q⟩ := q1
  subst e
  obtain ⟨t, rfl⟩ := r1
  have fp : ∀ b ∈ [s1.heap.objs.size], FpOk X pins H1 b := fun b hb => by
    have e : b = s1.heap.objs.size := by simpa using hb
    rw [e]
    exact I1.fpOk (Nat.le_refl _) (I1.hok.fresh (Nat.le_refl _))
  cases ha : z.cps.all (· < 128)
  · exact wpAny_pyIter_wide ha ⟨s1.heap.objs.size, [s1.heap.objs.size], _, Its z, H1, rfl, I1.kept (t' := s1.toks) fun b o e => Heap.get?_push_of_some _ e, turn_strW _ z t, ⟨_, Heap.get?_push_size _ rfl, rfl, rfl⟩, fp, q⟩
  · exact wpAny_pyIter_ascii ha ⟨s1.heap.objs.size, [s1.heap.objs.size], _, Its z, H1, rfl, I1.kept (t' := s1.toks) fun b o e => Heap.get?_push_of_some _ e, turn_strA _ z t, ⟨_, Heap.get?_push_size _ rfl, rfl, rfl⟩, fp, q⟩

def rSlS : V → Option Int → Option Int → Hp → VK → Prop := fun x lo hi H Q => ∃ z, x = .str z ∧ z.length ≤ sizeLine ∧ Q (.str (Txt.slice z lo hi)) H
theorem sl_str : SlR X rSlS := by
  intro pins s σ H x v vl vu lo hi sl Q I rx hs pl pu h
  obtain ⟨z, rfl, hz, q⟩ := h
  obtain ⟨t, rfl⟩ := rx
  refine ⟨"str", _, F.slot_str_getitem.lookup, typeIs_str _ _ _, ?_⟩
  have fin : ∀ t' k, EP X pins σ Q (.str (Txt.slice z lo hi) t') { s with toks := k } := fun t' k => ⟨.str _, H, I.tok _, ⟨_, rfl⟩, q⟩
  obtain ⟨os, e1, e2, e3⟩ := hs
  cases pl with
  | none =>
    cases pu with
    | none => exact wpAny_getItem_str_slice (l := none) (u := none) (st := none) ⟨os, e1, e2, e3⟩ rfl (post_val_or_str ⟨Nat.le_trans (Txt.slice_le z _ _) hz, fin⟩)
    | int j u => exact wpAny_getItem_str_slice (l := none) (u := some (j, u)) (st := none) ⟨os, e1, e2, e3⟩ rfl (post_val_or_str ⟨Nat.le_trans (Txt.slice_le z _ _) hz, fin⟩)
  | int i t2 =>
    cases pu with
    | none => exact wpAny_getItem_str_slice (l := some (i, t2)) (u := none) (st := none) ⟨os, e1, e2, e3⟩ rfl (post_val_or_str ⟨Nat.le_trans (Txt.slice_le z _ _) hz, fin⟩)
    | int j u => exact wpAny_getItem_str_slice (l := some (i, t2)) (u := some (j, u)) (st := none) ⟨os, e1, e2, e3⟩ rfl (post_val_or_str ⟨Nat.le_trans (Txt.slice_le z _ _) hz, fin⟩)
end
end L2
set_option Elab.async false
set_option linter.all false
set_option maxRecDepth 100000
namespace L2
open PySem PySem.Spec PyProof.Rows
inductive D where
  | non | bl (b : Bool) | int (i : Int) | str (x : Str) | tup (ds : List D) | lst (ds : List D)
mutual
noncomputable def deq : D → D → Bool
  | .non, .non => true
  | .bl a, .bl b => a == b
  | .bl a, .int j => (if a then (1 : Int) else 0) == j
  | .int i, .bl b => i == (if b then (1 : Int) else 0)
  | .int i, .int j => i == j
  | .str x, .str y => x == y
  | .tup a, .tup b => deqs a b
  | .lst a, .lst b => deqs a b
  | _, _ => false
noncomputable def deqs : List D → List D → Bool
  | [], [] => true
  | x :: xs, y :: ys => deq x y && deqs xs ys
  | _, _ => false
end
mutual
noncomputable def D.deep : D → Nat
  | .tup ds => D.deeps ds + 1
  | .lst ds => D.deeps ds + 1
  | _ => 0
noncomputable def D.deeps : List D → Nat
  | [] => 0
  | d :: ds => max d.deep (D.deeps ds)
end
mutual
theorem deq_refl : ∀ d : D, deq d d = true
  | .non => by simp [deq]
  | .bl _ => by simp [deq]
  | .int _ => by simp [deq]
  | .str _ => by simp [deq]
  | .tup ds => by simp [deq, deqs_refl ds]
  | .lst ds => by simp [deq, deqs_refl ds]
theorem deqs_refl : ∀ ds : List D, deqs ds ds = true
  | [] => by simp [deqs]
  | d :: ds => by simp [deqs, deq_refl d, deqs_refl ds]
end
theorem deep_mem : ∀ {ds : List D} {d : D} {j : Nat}, ds[j]? = some d → d.deep ≤ D.deeps ds
  | [], _, _, h => by simp at h
  | d :: ds, e, 0, h => by simp at h; subst h; simp [D.deeps]; omega
  | d :: ds, e, j + 1, h => by
    have := deep_mem (ds := ds) (j := j) (by simpa using h)
    simp [D.deeps]; omega
theorem deqs_range : ∀ {ds ds' : List D}, ((List.range (min ds.length ds'.length)).all (fun j => deq (ds.getD j .non) (ds'.getD j .non)) && (ds.length == ds'.length)) = deqs ds ds'
  | [], [] => by simp [deqs]
  | [], _ :: _ => by simp [deqs]
  | _ :: _, [] => by simp [deqs]
  | d :: ds, d' :: ds' => by
    have ih := deqs_range (ds := ds) (ds' := ds')
    have e : min (d :: ds).length (d' :: ds').length = min ds.length ds'.length + 1 := by simp
    rw [e, List.range_succ_eq_map, List.all_cons, List.all_map]
    simp only [deqs]
    rw [← ih]
    simp [Function.comp_def, Bool.and_assoc]
end L2
set_option Elab.async false
set_option linter.all false
set_option maxRecDepth 100000
namespace L2
open PySem PySem.Spec PyProof.Rows
section
variable {X : Cx} {a b : Expr} {ta tb : TE} {pos : Pos}
def rLtA : R2 := fun x y H Q => rI0 (fun i j => .bl (decide (i < j))) x y H Q ∨ ∃ i j, x = .str i ∧ y = .str j ∧ Q (.bl (decide (i.cps.toList < j.cps.toList))) H
theorem op_ltA : OpR X (compareOp .Lt) rLtA := op_lt.or op_lt_str
def rLeA : R2 := fun x y H Q => rI0 (fun i j => .bl (decide (i ≤ j))) x y H Q ∨ ∃ i j, x = .str i ∧ y = .str j ∧ Q (.bl (!decide (j.cps.toList < i.cps.toList))) H
theorem op_leA : OpR X (compareOp .LtE) rLeA := op_le.or op_le_str
def rGtA : R2 := fun x y H Q => rI0 (fun i j => .bl (decide (j < i))) x y H Q ∨ ∃ i j, x = .str i ∧ y = .str j ∧ Q (.bl (decide (j.cps.toList < i.cps.toList))) H
theorem op_gtA : OpR X (compareOp .Gt) rGtA := op_gt.or op_gt_str
def rGeA : R2 := fun x y H Q => rI0 (fun i j => .bl (decide (j ≤ i))) x y H Q ∨ ∃ i j, x = .str i ∧ y = .str j ∧ Q (.bl (!decide (i.cps.toList < j.cps.toList))) H
theorem op_geA : OpR X (compareOp .GtE) rGeA := op_ge.or op_ge_str
def rIsA : R2 := fun x y H Q => (y = .non ∧ Q (.bl (decide (x = .non))) H) ∨ ∃ i j, x = .bl i ∧ y = .bl j ∧ Q (.bl (i == j)) H
theorem op_isA : OpR X (compareOp .Is) rIsA := op_isN.or op_is_bl
theorem comp_free (X : Cx) (scope : Scope) (h : (scope.names.all fun y => y.2 != .free || (X.env.kindOf y.1 == some .cell || X.env.kindOf y.1 == some .free)) = true) : ∀ y ∈ scope.names, y.2 = .free → X.env.kindOf y.1 = some .cell ∨ X.env.kindOf y.1 = some .free := by
  intro y hy e
  have := List.all_eq_true.mp h y hy
  rw [e] at this
  simpa using this
theorem comp_ix (X : Cx) (N' : List Str) (ix : List (Option Nat)) (scope : Scope) (h : ((List.range ix.length).all fun i => match ix[i]?, N'[i]? with
    | some (some j), some x => decide (X.N[j]? = some x) && decide (scope.names.lookup x = some .free)
    | _, _ => true) = true) : ∀ (i j : Nat) (x : Str), ix[i]? = some (some j) → N'[i]? = some x → X.N[j]? = some x ∧ scope.names.lookup x = some .free := by
  intro i j x h1 h2
  have hi : i < ix.length := (List.getElem?_eq_some_iff.mp h1).1
  have := List.all_eq_true.mp h i (List.mem_range.mpr hi)
  rw [h1, h2] at this
  simpa using this

noncomputable def instB (t c : String) : Bool := t == c || (t == "bool" && c == "int")
theorem kit_instB (K : PySem.W.Frag) {t c : String} (ht : t = "NoneType" ∨ t = "bool" ∨ t = "int" ∨ t = "str" ∨ t = "list" ∨ t = "tuple" ∨ t = "dict") (hc : c = "str" ∨ c = "int" ∨ c = "bool" ∨ c = "tuple" ∨ c = "list") :
    PySem.W.kitOne K (.type t) (.type c) = some (instB t c) := by
  rcases ht with rfl | rfl | rfl | rfl | rfl | rfl | rfl <;> rcases hc with rfl | rfl | rfl | rfl | rfl <;> rfl
theorem hu150 {A : Around} {k : Nat} (hr : Room k A) : A.units + 150 < cLine := by
  have := hr.un
  omega
noncomputable def notStar : Expr → Bool
  | .Starred _ _ => false
  | _ => true
theorem star_cons {e : Expr} {es : List Expr} {env : Env} (h : notStar e = true) : starEach (e :: es) env = (false, eval e env) :: starEach es env := by
  cases e <;> first | rfl | cases h
theorem pa_c {e : Expr} {es : List Expr} {te : TE} {t : TA} (ha : PE X e te) (hr : PA X es t) (h : notStar e = true := by rfl) : PA X (e :: es) (tCons te t) := pa_cons ha hr (star_cons h)
end
structure NmOk (sc : Scope) (x : Str) (k : NameKind) : Prop where
  lk : sc.names.lookup x = some k
  db : (x == ("__debug__" : Str)) = false
  cd : (x == ("__classdict__" : Str)) = false
  nn : x ≠ "__name__"
instance {sc : Scope} {x : Str} {k : NameKind} : Decidable (NmOk sc x k) := decidable_of_iff (sc.names.lookup x = some k ∧ (x == ("__debug__" : Str)) = false ∧ (x == ("__classdict__" : Str)) = false ∧ x ≠ "__name__") ⟨fun h => ⟨h.1, h.2.1, h.2.2.1, h.2.2.2⟩, fun h => ⟨h.1, h.2, h.3, h.4⟩⟩
noncomputable def VisK (k : NameKind) : Bool := match k with | .local => true | .cell => true | .free => true | _ => false
theorem relabel_lookup_glob {env : Env} {x : Str} : ∀ {names : List (Str × NameKind)}, names.lookup x = some .globalImplicit →
    (names.map fun (n, k) => if (k == NameKind.free && env.scope.kind == .function && env.kindOf n == some .cell) = true then (n, NameKind.cell) else (n, k)).lookup x = some .globalImplicit
  | [], h => by cases h
  | (n, k) :: r, h => by
    have ih := @relabel_lookup_glob env x r
    rw [List.map_cons]
    rw [List.lookup_cons] at h
    cases hx : x == n with
    | true =>
      rw [hx] at h
      have hk : k = .globalImplicit := Option.some.inj h
      subst hk
      have hc' : (if (NameKind.globalImplicit == NameKind.free && env.scope.kind == .function && env.kindOf n == some .cell) = true then (n, NameKind.cell) else (n, NameKind.globalImplicit)) = (n, NameKind.globalImplicit) := if_neg (by simp)
      simp only [hc', List.lookup_cons, hx]
    | false =>
      rw [hx] at h
      have q := ih h
      by_cases hc : (k == NameKind.free && env.scope.kind == .function && env.kindOf n == some .cell) = true
      · have hc' : (if (k == NameKind.free && env.scope.kind == .function && env.kindOf n == some .cell) = true then (n, NameKind.cell) else (n, k)) = (n, NameKind.cell) := if_pos hc
        simp only [hc', List.lookup_cons, hx]
        exact q
      · have hc' : (if (k == NameKind.free && env.scope.kind == .function && env.kindOf n == some .cell) = true then (n, NameKind.cell) else (n, k)) = (n, k) := if_neg hc
        simp only [hc', List.lookup_cons, hx]
        exact q
section
variable {X : Cx} {x : Str} {p pos : Pos} {e : Expr} {es : List Expr} {t : TA} {k : NameKind}
theorem pvk (i : Nat) (q : NmOk X.env.scope x k) (hN : X.N[i]? = some x := by rfl) (hk : VisK k = true := by rfl) : PE X (.Name x pos) (tVar i) :=
  pe_var hN (by cases k <;> first | exact .inl q.lk | exact .inr (.inl q.lk) | exact .inr (.inr q.lk) | exact absurd hk (by decide)) q.db q.cd
theorem NmOk.own {scope : Scope} {cl : List (Str × Addr)} {C : Addr} {s₀ : Shared} {H₀ : Hp} {fp : List Addr} {N' : List Str} (q : NmOk scope x .local) : NmOk (X.comp scope cl C s₀ H₀ fp N').env.scope x .local :=
  ⟨lookup_relabel_local q.lk, q.db, q.cd, q.nn⟩
theorem NmOk.glob {scope : Scope} {cl : List (Str × Addr)} {C : Addr} {s₀ : Shared} {H₀ : Hp} {fp : List Addr} {N' : List Str} (q : NmOk scope x .globalImplicit) : NmOk (X.comp scope cl C s₀ H₀ fp N').env.scope x .globalImplicit :=
  ⟨relabel_lookup_glob q.lk, q.db, q.cd, q.nn⟩
theorem pvf (i : Nat) {scope : Scope} {cl : List (Str × Addr)} {C : Addr} {s₀ : Shared} {H₀ : Hp} {fp : List Addr} {N' : List Str} (q : NmOk scope x .free) (hN : N'[i]? = some x := by rfl) : PE (X.comp scope cl C s₀ H₀ fp N') (.Name x pos) (tVar i) :=
  pe_var (X := X.comp scope cl C s₀ H₀ fp N') hN (by
    rcases relabel_lookup_free (env := X.env) q.lk with h | h
    · exact .inr (.inl h)
    · exact .inr (.inr h)) q.db q.cd
theorem pgo {i : Nat} {scope : Scope} {cl : List (Str × Addr)} {C : Addr} {s₀ : Shared} {H₀ : Hp} {fp : List Addr} {N' : List Str} (q : NmOk scope x .local) (hd : N'.Nodup) (hN : N'[i]? = some x := by rfl) : PG (X.comp scope cl C s₀ H₀ fp N') (.Name x pos) (gName i) :=
  pg_name (X := X.comp scope cl C s₀ H₀ fp N') hd hN (.inl (lookup_relabel_local q.lk)) (.inr (lookup_relabel_local q.lk))
section
variable {CX : CXT} {n : Nat} {f : Addr} {fd : FuncData} {ps : List Str} {sp : Sp} {dvs : List V} {ds : List Value} {E : XK} {id T : String} {r : List V → Hp → VK → Prop}
theorem pe_callk (F : FnOk X.prog X.w X.K X.mg X.base CX n f fd ps sp) (hr : Room n X.A) (q : NmOk X.env.scope x .globalImplicit) (hm : X.mg x = some (.ref f)) (hk : PySem.W.keepIn X.K (.ref f) = true) (hb : Binds X.K fd ps ds) (hd : Vals dvs ds) (hx : Passes CX X E)
    (ha : PA X (e :: es) t) (he : notStar e = true := by rfl) (hpl : (backTo pos (starEach es X.env)).any (·.1) = false := by rfl) :
    PE X (.Call (.Name x p) (e :: es) [] pos) (tCall sp dvs E t) := pe_call F hr q.lk hm hk hb hd hx ha q.db (star_cons he) hpl
theorem pe_callBk (hc : CallR X (.builtin id) r) (q : NmOk X.env.scope x .globalImplicit) (hm : X.mg x = none) (hv : bootBuiltins x = some (.builtin id)) (ha : PA X (e :: es) t)
    (he : notStar e = true := by rfl) (hpl : (backTo pos (starEach es X.env)).any (·.1) = false := by rfl) : PE X (.Call (.Name x p) (e :: es) [] pos) (tCB r t) := pe_callB hc q.lk hm hv ha q.nn q.db (star_cons he) hpl
theorem pe_callTyk (hc : CallR X (.type T) r) (q : NmOk X.env.scope x .globalImplicit) (hm : X.mg x = none) (hv : bootBuiltins x = some (.type T)) (ha : PA X (e :: es) t)
    (he : notStar e = true := by rfl) (hpl : (backTo pos (starEach es X.env)).any (·.1) = false := by rfl) : PE X (.Call (.Name x p) (e :: es) [] pos) (tCB r t) := pe_callTy hc q.lk hm hv ha q.nn q.db (star_cons he) hpl
theorem pe_bltnk {v : V} {u : Value} (q : NmOk X.env.scope x .globalImplicit) (hm : X.mg x = none) (hv : bootBuiltins x = some u) (r : RelV v u) : PE X (.Name x pos) (tC v) := pe_bltn q.lk hm hv r q.nn q.db
theorem pe_globk {v : V} {u : Value} (q : NmOk X.env.scope x .globalImplicit) (hm : X.mg x = some u) (r : RelV v u) : PE X (.Name x pos) (tC v) := pe_glob q.lk hm r q.db
end
end
noncomputable def notComp : Expr → Bool
  | .ListComp _ _ _ _ => false
  | .SetComp _ _ _ _ => false
  | .DictComp _ _ _ _ _ => false
  | _ => true
theorem swaps_no {value : Expr} {tgt : Option Expr} {l : Nat} {env : Env} (h : notComp value = true) : swapsWith value tgt l env = pure false := by
  cases value <;> first | rfl | cases h
section
variable {X : Cx}
theorem ps_setk {i : Nat} {x : Str} {e : Expr} {te : TE} {pos pos' : Pos} (hN : X.N.Nodup) (hi : X.N[i]? = some x) (hx : Loc X.env.scope x) (he : PE X e te) (hs : notComp e = true := by rfl) (hf : X.fn x = true := by rfl) :
    PS X (.Assign [.Name x pos'] e pos) (tAsg te (gName i)) := ps_set hN hi hx he (swaps_no hs) (.inl hf)
theorem ps_exprk {e : Expr} {te : TE} {pos : Pos} (he : PE X e te) (hs : notComp e = true := by rfl) : PS X (.Expr e pos) (tDrop te) := ps_expr he (swaps_no hs)
end
end L2
set_option Elab.async false
set_option linter.all false
set_option maxRecDepth 100000
namespace L2
open PySem PySem.Spec PyProof.Rows
section
variable {D : Ends} {σ : St} {H : Hp} {Q : VK} {B : Bool → Hp → Prop} {te ta tb tc : TE} {t u : TS} {g : TG} {tt uu : TT} {tr : TA} {r r' : R2} {K : PySem.W.Frag}
def Kept0 (ix : List (Option Nat)) (σ τ : St) : Prop := τ.length = ix.length ∧ ∀ (k : Nat) v, (tau ix σ)[k]? = some (some v) → τ[k]? = some (some v)
variable {ix : List (Option Nat)}
end
theorem upd_new {H : Hp} {b p : Addr} {o u : HO} (e : H b = some u) (hp : H p = none) : upd H p o b = some u := by rw [upd_ne (ne_of_none e hp)]; exact e
theorem same_new {H : Hp} {p : Addr} (h : H p = none) (o : HO) : Same H (upd H p o) := fun b u q => by rw [upd_ne (ne_of_none q h)]; exact q
end L2
namespace L2
open PySem PySem.Spec PyProof.Rows
section
variable {κ : Type} [DecidableEq κ]
noncomputable def valV (kvs : List (κ × V)) (k : κ) : Option V := (kvs.find? fun kv => decide (kv.1 = k)).map (·.2)
noncomputable def putK (kvs : List (κ × V)) (k : κ) (v : V) : List (κ × V) :=
  if (kvs.any fun kv => decide (kv.1 = k)) = true then kvs.map (fun kv => if kv.1 = k then (kv.1, v) else kv) else kvs ++ [(k, v)]
theorem valV_pos {p : κ × V} {r : List (κ × V)} {k : κ} (e : p.1 = k) : valV (p :: r) k = some p.2 := by simp [valV, List.find?_cons, e]
theorem valV_neg {p : κ × V} {r : List (κ × V)} {k : κ} (e : ¬ p.1 = k) : valV (p :: r) k = valV r k := by simp [valV, List.find?_cons, e]
theorem length_putK (kvs : List (κ × V)) (k : κ) (v : V) : (putK kvs k v).length ≤ kvs.length + 1 := by
  unfold putK
  split
  · rw [List.length_map]; omega
  · rw [List.length_append, List.length_cons, List.length_nil]; omega
theorem RelO.isSome_eq {o : Option V} {u : Option Value} (r : RelO o u) : o.isSome = u.isSome := by
  cases o with
  | none => cases u with
    | none => rfl
    | some _ => exact (show False from r).elim
  | some _ => cases u with
    | none => exact (show False from r).elim
    | some _ => rfl
theorem KV.val {kvs : List (κ × V)} {vs : List (κ × Value)} (r : KV kvs vs) (k : κ) : RelO (valV kvs k) (valueAt vs k) := by
  unfold KV at r
  induction r with
  | nil => exact True.intro
  | @cons p q ps qs h t ih =>
    obtain ⟨h1, h2⟩ := h
    by_cases e : p.1 = k
    · have e' : q.1 = k := h1.symm.trans e
      have b : valueAt (q :: qs) k = some q.2 := by simp [valueAt, List.find?_cons, e']
      rw [valV_pos e, b]; exact h2
    · have e' : ¬ q.1 = k := fun z => e (h1.trans z)
      have b : valueAt (q :: qs) k = valueAt qs k := by simp [valueAt, List.find?_cons, e']
      rw [valV_neg e, b]; exact ih
theorem KV.any {kvs : List (κ × V)} {vs : List (κ × Value)} (r : KV kvs vs) (k : κ) : (kvs.any fun kv => decide (kv.1 = k)) = vs.any fun kv => decide (kv.1 = k) := by
  unfold KV at r
  induction r with
  | nil => rfl
  | cons h t ih => rw [List.any_cons, List.any_cons, ih, h.1]
theorem KV.repl {kvs : List (κ × V)} {vs : List (κ × Value)} (r : KV kvs vs) (k : κ) {y : V} {u : Value} (ry : RelV y u) :
    KV (kvs.map fun kv => if kv.1 = k then (kv.1, y) else kv) (vs.map fun kv => if kv.1 = k then (kv.1, u) else kv) := by
  unfold KV at r ⊢
  induction r with
  | nil => exact .nil
  | @cons p q ps qs h t ih =>
    rw [List.map_cons, List.map_cons]
    refine .cons ?_ ih
    obtain ⟨h1, h2⟩ := h
    by_cases e : p.1 = k
    · rw [if_pos e, if_pos (h1.symm.trans e)]; exact ⟨h1, ry⟩
    · rw [if_neg e, if_neg (fun z => e (h1.trans z))]; exact ⟨h1, h2⟩
theorem KV.put {kvs : List (κ × V)} {vs : List (κ × Value)} (r : KV kvs vs) (k : κ) {y : V} {u : Value} (ry : RelV y u) : KV (putK kvs k y) (stored vs k u) := by
  unfold putK stored
  rw [r.any k]
  by_cases e : (vs.any fun kv => decide (kv.1 = k)) = true
  · rw [if_pos e, if_pos e]; exact r.repl k ry
  · rw [if_neg e, if_neg e]; exact Paired.snoc r ⟨rfl, ry⟩
theorem KV.length {kvs : List (κ × V)} {vs : List (κ × Value)} (r : KV kvs vs) : kvs.length = vs.length := Paired.length r
end
theorem kV_is {P : Program} {w : World} {k : Key} {u : Value} (r : RelV (kV k) u) : (mixKind P w).is k u = true := by
  cases k with
  | inl i => obtain ⟨t, e⟩ := (show ∃ t, u = Value.int i t from r); subst e; exact mixKind_int P w i t
  | inr x => obtain ⟨t, e⟩ := (show ∃ t, u = Value.str x t from r); subst e; exact mixKind_str P w x t
theorem items_are {P : Program} {w : World} : ∀ {ks : List Key} {us : List Value}, Vals (ks.map kV) us → ItemsAre (mixKind P w) ks us
  | [], _, r => by rw [List.map_nil] at r; cases r; exact .nil
  | k :: ks, _, r => by
    rw [List.map_cons] at r
    cases r with
    | cons h t => exact .cons (kV_is h) (items_are t)

abbrev KT (H : Hp) : List (List Key × V) → List (List Key × Addr × Value) → Prop := Paired fun p q => p.1 = q.1 ∧ H q.2.1 = some (.tup (p.1.map kV)) ∧ RelV p.2 q.2.2
theorem KT.val {H : Hp} {kvs : List (List Key × V)} {xs : List (List Key × Addr × Value)} (r : KT H kvs xs) (k : List Key) : RelO (valV kvs k) ((atKey xs k).map (·.2)) := by
  induction r with
  | nil => exact True.intro
  | @cons p q ps qs h t ih =>
    obtain ⟨h1, _, h2⟩ := h
    by_cases e : p.1 = k
    · have e' : q.1 = k := h1.symm.trans e
      have b : atKey (q :: qs) k = some q.2 := by simp [atKey, List.find?_cons, e']
      rw [valV_pos e, b]; exact h2
    · have e' : ¬ q.1 = k := fun z => e (h1.trans z)
      have b : atKey (q :: qs) k = atKey qs k := by simp [atKey, List.find?_cons, e']
      rw [valV_neg e, b]; exact ih
section
variable {P : Program} {w : World} {H : Hp} {h : Heap} {a : Addr}
theorem rd_of {u : HO} (ok : HOk P w H h) (e : Rd H a u) : ObjOk P w H h a u := e.ok ok
theorem dk_rd {kvs : List (Key × V)} (ok : HOk P w H h) (e : Rd H a (.dK kvs)) : kvs.length ≤ sizeLine ∧ (a == sysModules) = false ∧ ∃ vs, KV kvs vs ∧ h.DictOf (mixKind P w) a vs :=
  show ObjOk P w H h a (.dK kvs) from rd_of ok e
theorem dk_of {kvs : List (Key × V)} (ok : HOk P w H h) (e : H a = some (.dK kvs)) : kvs.length ≤ sizeLine ∧ (a == sysModules) = false ∧ ∃ vs, KV kvs vs ∧ h.DictOf (mixKind P w) a vs := dk_rd ok (.inl e)
theorem key_of {ks : List Key} (ok : HOk P w H h) (e : H a = some (.tup (ks.map kV))) : (tupleKind (mixKind P w)).is h ks a := by
  obtain ⟨_, its, r, o, h1, h2, n, h3⟩ := (show ObjOk P w H h a (.tup (ks.map kV)) from ok a _ e)
  exact ⟨o, its.toArray, n, h1, h2, h3, by simpa using items_are r⟩
theorem dt_rd {kvs : List (List Key × V)} (ok : HOk P w H h) (e : Rd H a (.dT kvs)) : kvs.length ≤ sizeLine ∧ (a == sysModules) = false ∧
    ∃ xs, KT H kvs xs ∧ h.DictOfH (tupleKind (mixKind P w)) a xs := by
  obtain ⟨z, y, xs, r, o, es, ep, h1, h2, h3, h4, h5⟩ := (show ObjOk P w H h a (.dT kvs) from rd_of ok e)
  refine ⟨z, y, xs, r, o, es, ep, h1, h2, h3, h4, fun x hx => ?_, h5⟩
  have all : ∀ {l : List (List Key × V)} {m : List (List Key × Addr × Value)}, KT H l m → ∀ x ∈ m, (tupleKind (mixKind P w)).is h x.1 x.2.1 := by
    intro l m q
    induction q with
    | nil => intro x hx; exact nomatch hx
    | @cons p q ps qs hq t ih =>
      intro x hx
      rcases List.mem_cons.mp hx with e | hx
      · subst e
        exact key_of ok (by rw [← hq.1]; exact hq.2.1)
      · exact ih x hx
  exact all r x hx
end
def DGet (H : Hp) (a : Addr) (y : V) (r : Option V) : Prop :=
  (∃ kvs k, Rd H a (.dK kvs) ∧ y = kV k ∧ r = valV kvs k) ∨ ∃ kvs k b, Rd H a (.dT kvs) ∧ y = .ref b ∧ H b = some (.tup (k.map kV)) ∧ r = valV kvs k
theorem DGet.k {H : Hp} {a : Addr} {kvs : List (Key × V)} {k : Key} (e : H a = some (.dK kvs)) : DGet H a (kV k) (valV kvs k) := .inl ⟨kvs, k, .inl e, rfl, rfl⟩
section
variable {X : Cx} {pins : List (Addr × Obj)} {σ : St} {H : Hp} {s : Shared} {a : Addr} {y v : V} {u r : Value} {o : Option V} {A : Around} {E : Value → Shared → Prop}
theorem Inv.big (I : Inv X pins σ H s) : sysModules < s.heap.objs.size := by
  have h : mainGlobals < s.heap.objs.size := (I.mod.glob.keeps I.bk).lt
  exact Nat.lt_trans (by decide) h

theorem d_getItem {Q : Value → Shared → Prop} (hu : A.units + 1 < cLine) (I : Inv X pins σ H s) (g : DGet H a y (some v)) (ry : RelV y u) (h : ∀ w' s', Inv X pins σ H s' → RelV v w' → Q w' s') :
    wpAny (model X.prog X.w) A (getItem (.ref a) u) Q E s := by
  rcases g with ⟨kvs, k, e, ey, l⟩ | ⟨kvs, k, b, e, ey, eb, l⟩
  · subst ey
    obtain ⟨z, hd, vs, rel, dd⟩ := dk_rd I.hok e
    obtain ⟨w', hw, rw'⟩ := RelO.some_of (v := v) (o := valueAt vs k) (by rw [l]; exact rel.val k)
    exact wpAny_getItem_of (kV_is ry) dd.mapOf hw (h w' _ (I.tok _) rw')
  · subst ey
    cases (show u = Value.ref b from ry)
    obtain ⟨z, hd, xs, rel, dd⟩ := dt_rd I.hok e
    obtain ⟨w', hw, rw'⟩ := RelO.some_of (v := v) (o := (atKey xs k).map (·.2)) (by rw [l]; exact rel.val k)
    obtain ⟨p, hp, hp2⟩ := Option.map_eq_some_iff.mp hw
    refine wpAny_getItem_heap (tupleKind_room_in1 hu) (key_of I.hok eb) dd hp ?_
    rw [hp2]
    exact h w' _ (I.tok _) rw'
theorem d_in {Q : Value → Shared → Prop} (hu : A.units + 1 < cLine) (I : Inv X pins σ H s) (g : DGet H a y o) (ry : RelV y u) (h : ∀ s', Inv X pins σ H s' → Q (.bool o.isSome) s') :
    wpAny (model X.prog X.w) A (compareOp .In u (.ref a)) Q E s := by
  rcases g with ⟨kvs, k, e, ey, l⟩ | ⟨kvs, k, b, e, ey, eb, l⟩
  · subst ey
    obtain ⟨z, hd, vs, rel, dd⟩ := dk_rd I.hok e
    refine wpAny_in_of (kV_is ry) hd dd.mapOf ?_
    rw [← (rel.val k).isSome_eq, ← l]
    exact h _ (I.tok _)
  · subst ey
    cases (show u = Value.ref b from ry)
    obtain ⟨z, hd, xs, rel, dd⟩ := dt_rd I.hok e
    refine wpAny_in_heap (tupleKind_room_in1 hu) (key_of I.hok eb) hd dd ?_
    have q := (rel.val k).isSome_eq
    rw [Option.isSome_map] at q
    rw [← q, ← l]
    exact h _ (I.tok _)
theorem d_notIn {Q : Value → Shared → Prop} (hu : A.units + 1 < cLine) (I : Inv X pins σ H s) (g : DGet H a y o) (ry : RelV y u) (h : ∀ s', Inv X pins σ H s' → Q (.bool (!o.isSome)) s') :
    wpAny (model X.prog X.w) A (compareOp .NotIn u (.ref a)) Q E s := by
  rcases g with ⟨kvs, k, e, ey, l⟩ | ⟨kvs, k, b, e, ey, eb, l⟩
  · subst ey
    obtain ⟨z, hd, vs, rel, dd⟩ := dk_rd I.hok e
    refine wpAny_notIn_of (kV_is ry) hd dd.mapOf ?_
    rw [← (rel.val k).isSome_eq, ← l]
    exact h _ (I.tok _)
  · subst ey
    cases (show u = Value.ref b from ry)
    obtain ⟨z, hd, xs, rel, dd⟩ := dt_rd I.hok e
    refine wpAny_notIn_heap (tupleKind_room_in1 hu) (key_of I.hok eb) hd dd ?_
    have q := (rel.val k).isSome_eq
    rw [Option.isSome_map] at q
    rw [← q, ← l]
    exact h _ (I.tok _)
theorem d_write {h' : Heap} {t' : Nat} {ob : HO} (I : Inv X pins σ H s) (mu : Mut (H a)) (hs : Heap.SameBut a s.heap h') (he : ∃ q, h'.get? a = some q) (new : ObjOk X.prog X.w (upd H a ob) h' a ob) :
    Inv X pins σ (upd H a ob) { s with heap := h', toks := t' } :=
  I.write (x := a) (e := a) mu (.inl rfl) (fun b q hb z => (hs.2 b hb).trans z) he new
theorem dk_new {P : Program} {w : World} {H' : Hp} {h' : Heap} {kvs : List (Key × V)} {vs : List (Key × Value)} (z : kvs.length ≤ sizeLine) (hd : (a == sysModules) = false) (rel : KV kvs vs) (dd : h'.DictOf (mixKind P w) a vs) :
    ObjOk P w H' h' a (.dK kvs) := ⟨z, hd, vs, rel, dd⟩
end
section
variable {X : Cx} {pins : List (Addr × Obj)} {σ : St} {H : Hp} {s : Shared} {a : Addr} {kvs : List (Key × V)} {k : Key} {u : Value} {A : Around} {E : Value → Shared → Prop}
theorem d_len {Q : Value → Shared → Prop} (I : Inv X pins σ H s) (e : Rd H a (.dK kvs)) (h : ∀ t s', Inv X pins σ H s' → Q (.int kvs.length t) s') : wpAny (model X.prog X.w) A (call (.builtin "len") [.ref a]) Q E s := by
  obtain ⟨z, hd, vs, rel, dd⟩ := dk_rd I.hok e
  refine call_len_dict hd dd (by rw [← rel.length]; rw [sizeLine_eq] at z; omega) ?_
  rw [← rel.length]
  exact h _ _ (I.tok _)
end
theorem dict_typeIs {X : Cx} {pins : List (Addr × Obj)} {σ : St} {H : Hp} {s : Shared} {a : Addr} {y : V} {o : Option V} (I : Inv X pins σ H s) (g : DGet H a y o) : s.TypeIs (.ref a) "dict" := by
  rcases g with ⟨kvs, k, e, _, _⟩ | ⟨kvs, k, b, e, _, _, _⟩
  · obtain ⟨_, _, vs, _, dd⟩ := dk_rd I.hok e
    exact dd.typeIs
  · obtain ⟨_, _, xs, _, dd⟩ := dt_rd I.hok e
    exact dd.typeIs
theorem dk_empty {P : Program} {w : World} {H : Hp} (h : Heap) (hb : sysModules < h.objs.size) : ObjOk P w H (h.push { cls := .type "dict", data := .dict #[] }) h.objs.size (.dK []) :=
  ⟨Nat.zero_le _, beq_eq_false_iff_ne.mpr (Ne.symm (Nat.ne_of_lt hb)), [], .nil, Heap.DictOf.new h⟩
abbrev VV : List (V × V) → List (Value × Value) → Prop := Paired fun p q => RelV p.1 q.1 ∧ RelV p.2 q.2
noncomputable def mergeK (kvs more : List (Key × V)) : List (Key × V) := more.foldl (fun acc kv => putK acc kv.1 kv.2) kvs
theorem KV.merge : ∀ {more : List (Key × V)} {rs : List (Key × Value)} {kvs : List (Key × V)} {vs : List (Key × Value)}, KV more rs → KV kvs vs → KV (mergeK kvs more) (merged vs rs) := by
  intro more rs kvs vs r
  unfold KV at r
  induction r generalizing kvs vs with
  | nil => intro q; exact q
  | @cons p q ps qs h t ih =>
    intro r0
    have e : KV (putK kvs p.1 p.2) (stored vs q.1 q.2) := by
      have := r0.put p.1 h.2
      rw [← h.1]; exact this
    exact ih e
theorem length_mergeK : ∀ (more kvs : List (Key × V)), (mergeK kvs more).length ≤ kvs.length + more.length
  | [], kvs => by show kvs.length ≤ kvs.length + 0; omega
  | p :: r, kvs => by
    have h1 := length_mergeK r (putK kvs p.1 p.2)
    have h2 := length_putK kvs p.1 p.2
    show (mergeK (putK kvs p.1 p.2) r).length ≤ _
    rw [List.length_cons]; omega
theorem carries_of {P : Program} {w : World} : ∀ {kvs : List (Key × V)} {ws : List (Value × Value)}, VV (kvs.map fun kv => (kV kv.1, kv.2)) ws → ∃ rs, Carries (mixKind P w) ws rs ∧ KV kvs rs
  | [], _, r => by rw [List.map_nil] at r; cases r; exact ⟨[], True.intro, .nil⟩
  | p :: kvs, _, r => by
    rw [List.map_cons] at r
    cases r with
    | @cons a b as bs h t =>
      obtain ⟨rs, c, q⟩ := carries_of (P := P) (w := w) t
      obtain ⟨b1, b2⟩ := b
      exact ⟨(p.1, b2) :: rs, ⟨kV_is h.1, rfl, c⟩, .cons ⟨rfl, h.2⟩ q⟩
end L2
namespace L2
open PySem PySem.Spec PyProof.Rows
section
variable {X : Cx}
theorem call_lenD : CallR X (.builtin "len") (fun xs H Q => ∃ a kvs, xs = [V.ref a] ∧ H a = some (.dK kvs) ∧ Q (.int kvs.length) H) := by
  intro pins s σ H xs us Q I r h
  obtain ⟨a, kvs, rfl, ha, q⟩ := h
  obtain ⟨u, rfl, ru⟩ := vals1 r
  cases ru
  exact d_len I (.inl ha) fun t s' I' => ⟨.int kvs.length, H, I', ⟨t, rfl⟩, q⟩
end
end L2
set_option Elab.async false
set_option linter.all false
set_option maxRecDepth 100000
namespace L2
open PySem PySem.Spec PyProof.Rows
section
open PySem.SeqAt
variable {X : Cx} {pins : List (Addr × Obj)} {σ : St} {H : Hp} {s : Shared}
theorem kitAny_of (K : PySem.W.Frag) {t : String} (ht : t = "NoneType" ∨ t = "bool" ∨ t = "int" ∨ t = "str" ∨ t = "list" ∨ t = "tuple" ∨ t = "dict") : ∀ {cs : List String}, (∀ c ∈ cs, c = "str" ∨ c = "int" ∨ c = "bool" ∨ c = "tuple" ∨ c = "list") →
    PySem.W.kitAny K (.type t) (cs.map Value.type) = some (cs.any (instB t))
  | [], _ => rfl
  | c :: r, h => by
    have e := kit_instB K ht (h c List.mem_cons_self)
    have ih := kitAny_of K ht (cs := r) fun c' hc => h c' (List.mem_cons_of_mem _ hc)
    rw [List.map_cons, List.any_cons]
    unfold PySem.W.kitAny
    rw [e]
    cases instB t c with
    | true => rfl
    | false => simpa using ih
theorem vals_ty {cs : List String} : ∀ {us : List Value}, Vals (cs.map V.ty) us → us = cs.map Value.type := by
  induction cs with
  | nil => intro us r; cases r; rfl
  | cons b bs ih => intro us r; cases r with | cons r1 r2 => rw [ih r2, show _ = Value.type b from r1]; rfl
end
theorem hu151 {A : Around} {k : Nat} (hr : Room k A) : A.units + 151 < cLine := by
  have := hr.un
  omega
section
variable {X : Cx}
theorem op_isnot_bl : OpR X (compareOp .IsNot) (fun x y H Q => ∃ i j, x = .bl i ∧ y = .bl j ∧ Q (.bl (i != j)) H) := by
  intro pins s σ H x y v u Q I rx ry h
  obtain ⟨i, j, rfl, rfl, q⟩ := h
  cases rx
  cases ry
  exact isnot_bool ⟨.bl _, H, I, rfl, q⟩
def rIsNotA : R2 := fun x y H Q => (y = .non ∧ Q (.bl (!decide (x = .non))) H) ∨ ∃ i j, x = .bl i ∧ y = .bl j ∧ Q (.bl (i != j)) H
theorem op_isNotA : OpR X (compareOp .IsNot) rIsNotA := op_notN.or op_isnot_bl
end
end L2
set_option Elab.async false
set_option linter.all false
set_option maxRecDepth 100000
namespace L2
open PySem PySem.Spec PyProof.Rows HT
section
variable {prog : Program} {w : World} {A : Around} {E : Value → Shared → Prop} {s : Shared}
theorem whole_tuple {t sl : Addr} {items : Array Value} {vl vu : Value} {lo hi : Option Int} {Q : Value → Shared → Prop} (ht : IsTup s.heap t items) (hs : s.heap.IsSliceOf sl vl vu .none) (pl : IsPart vl lo) (pu : IsPart vu hi)
    (hw : sIx items.size 0 lo = 0 ∧ sIx items.size items.size hi = items.size) (h : Q (.ref t) s) : wpAny (model prog w) A (getItem (.ref t) (.ref sl)) Q E s := by
  have hTs : s.TypeIs (.ref sl) "slice" := by
    obtain ⟨os, hos, hcs, _⟩ := id hs
    exact ⟨os, hos, hcs⟩
  unfold getItem
  try with_reducible refine wpAny_holding ?_
  first | refine wpAny_bind (wpAny_pure ?_) | skip
  refine wpAny_bind (wpAny_sequenceKey ht.typeIs (by decide) ?_)
  refine wpAny_bind (wpAny_callSpecial?_slot (name := Str.ofString "__getitem__") ht.typeIs PyProof.Rows.slot_tuple_getitem
    (wpAny_call_entry PyProof.Rows.slot_tuple_getitem ht.typeIs entry_tuple_getitem ?_ (args_tuple_getitem _ _)))
  show wpAny _ _ (Builtin.Tuple.tupleItemsOf (.ref t) >>= _) _ _ s
  refine wpAny_bind (tupleItemsOf_ ht ?_)
  refine wpAny_bind (wpAny_typeOf hTs ?_)
  rw [if_pos (by decide)]
  refine wpAny_bind (sliceApplied_gen hs pl pu ?_)
  have yes : (((sIx items.size 0 lo : Nat) : Int) == 0 && (1 : Int) == 1 && (sIx items.size items.size hi - sIx items.size 0 lo) == items.size) = true := by
    rw [hw.1, hw.2]; simp
  show wpAny _ _ (if (((sIx items.size 0 lo : Nat) : Int) == 0 && (1 : Int) == 1 && (sIx items.size items.size hi - sIx items.size 0 lo) == items.size) = true then _ else _) _ _ s
  rw [if_pos yes]
  refine wpAny_bind (m := Builtin.Tuple.tupleIsExact _) (wpAny_bind (wpAny_typeOf ht.typeIs (wpAny_pure ?_)))
  show wpAny _ _ (if (Value.type "tuple" == Value.type "tuple") = true then _ else _) _ _ s
  rw [if_pos (by decide)]
  first
    | exact wpAny_bind (wpAny_pure (wpAny_pure ⟨_, rfl, wpAny_pure h⟩))
    | exact wpAny_bind (wpAny_rule (wpAny_pure ⟨_, rfl, wpAny_pure h⟩))
end
end L2
set_option Elab.async false
set_option linter.all false
set_option maxRecDepth 100000
namespace L2
open PySem PySem.Spec PyProof.Rows
section
variable {X : Cx} {a b c e : Expr} {ta tb tc te : TE} {pos : Pos}
def tChain3 (r r' r'' : R2) (ta tb tc td : TE) : TE := fun σ H Q => ta σ H fun x H1 => tb σ H1 fun y H2 => r x y H2 fun z H3 => ∃ k, z = .bl k ∧
  (if k = true then tc σ H3 fun w H4 => r' y w H4 fun z' H5 => ∃ k', z' = .bl k' ∧ (if k' = true then td σ H5 fun u H6 => r'' w u H6 Q else Q (.bl false) H5) else Q (.bl false) H3)
theorem pe_chain3 {op op' op'' : CmpOp} {r r' r'' : R2} (ho : OpR X (compareOp op) r) (ho' : OpR X (compareOp op') r') (ho'' : OpR X (compareOp op'') r'') (ha : PE X a ta) (hb : PE X b tb) (hc : PE X c tc) (he : PE X e te)
    (hm : lastMarks [op, op', op''] [b, c, e] = false := by with_unfolding_all rfl) : PE X (.Compare a [op, op', op''] [b, c, e] pos) (tChain3 r r' r'' ta tb tc te) := by
  intro pins s σ H Q I h
  refine Compare_chain (thn (ha pins s σ H _ I h) fun v s1 ⟨x, H1, I1, r1, q1⟩ => chain_link (thn (hb pins s1 σ H1 _ I1 q1) fun u s2 ⟨y, H2, I2, r2, q2⟩ =>
    thn (ho pins s2 σ H2 x y v u _ I2 r1 r2 q2) fun d s3 ⟨z, H3, I3, r3, k, e3, q3⟩ => ?_)) hm
  subst e3
  cases r3
  refine wpAny_truthy_bool ?_
  cases k with
  | false => exact ite_ff ⟨.bl false, H3, I3, rfl, q3⟩
  | true =>
    refine ite_tt (chain_link (thn (hc pins s3 σ H3 _ I3 q3) fun w' s4 ⟨z', H4, I4, r4, q4⟩ => thn (ho' pins s4 σ H4 y z' u w' _ I4 r2 r4 q4) fun d5 s5 ⟨z5, H5, I5, r5, k5, e5, q5⟩ => ?_))
    subst e5
    cases r5
    refine wpAny_truthy_bool ?_
    cases k5 with
    | false => exact ite_ff ⟨.bl false, H5, I5, rfl, q5⟩
    | true => exact ite_tt (chain_last (thn (he pins s5 σ H5 _ I5 q5) fun w6 s6 ⟨z6, H6, I6, r6, q6⟩ => ho'' pins s6 σ H6 z' z6 w' w6 Q I6 r4 r6 q6))
end
end L2
set_option Elab.async false
set_option linter.all false
set_option maxRecDepth 100000
set_option Elab.async false
set_option linter.all false
set_option maxRecDepth 100000
namespace L2
open PySem PySem.Spec PyProof.Rows
section
variable {X : Cx} {pins : List (Addr × Obj)} {σ : St} {H : Hp} {s : Shared}
theorem Inv.turnedT {t' : Nat} {ch : List Addr} {p : Addr} {xs : List V} {its : List Value} {h' : Heap} (I : Inv X pins σ H s) (k : ∀ b o, b ∉ ch → s.heap.get? b = some o → h'.get? b = some o) (hf : ∀ b ∈ ch, FpOk X pins H b)
    (hp : s.heap.objs.size ≤ p) (hx : Vals xs its) (hz : xs.length ≤ sizeLine) (ht : IsTup h' p its.toArray) : Inv X pins σ (upd H p (.tup xs)) { s with heap := h', toks := t' } := by
  have hn : H p = none := I.hok.fresh hp
  have nch : ∀ b u, H b = some u → b ∉ ch := fun b u e z => by rw [(hf b z).1] at e; cases e
  refine I.call (g' := s.gens) (d' := s.drawn) (ch := ch) ⟨fun b o e _ _ hb => k b o hb e, fun b o e _ _ hb => ⟨o.slots, k b o hb e⟩, fun b o e n hb => ?_, fun b o e hb => ⟨o, k b o hb e⟩, fun b ys q => by rw [upd_ne (ne_of_none q hn)]; exact q, fun b u ys q => by rw [upd_ne (ne_of_none q hn)]; exact q, fun b ps q => ⟨#[], by rw [upd_ne (ne_of_none q hn), q]; simp⟩⟩ (fun b u e => ?_) I.bare fun b hb => ⟨(hf b hb).2.2.2.1, (hf b hb).2.1, (hf b hb).2.2.2.2.1, (hf b hb).2.2.2.2.2⟩
  · rw [upd_ne (Nat.ne_of_lt (Nat.lt_of_lt_of_le (Heap.lt_size e) hp))]; exact n
  · by_cases hb : b = p
    · subst hb
      rw [upd_same] at e
      cases e
      exact ⟨hz, its, hx, ht⟩
    · rw [upd_ne hb] at e
      refine (I.hok b u e).stay (fun c v hc q => k c v ?_ q) (fun c q => ?_) fun c ys q => ?_
      · rcases hc with z | z
        · rw [z]; exact nch b u e
        · exact nch c _ z
      · rw [upd_ne (ne_of_none q hn)]; exact q
      · rw [upd_ne (ne_of_none q hn)]; exact q
theorem Inv.turnedL {t' : Nat} {ch : List Addr} {h' : Heap} (I : Inv X pins σ H s) (k : ∀ b o, b ∉ ch → s.heap.get? b = some o → h'.get? b = some o) (hf : ∀ b ∈ ch, FpOk X pins H b) : Inv X pins σ H { s with heap := h', toks := t' } := by
  have nch : ∀ b u, H b = some u → b ∉ ch := fun b u e z => by rw [(hf b z).1] at e; cases e
  refine I.call (g' := s.gens) (d' := s.drawn) (ch := ch) ⟨fun b o e _ _ hb => k b o hb e, fun b o e _ _ hb => ⟨o.slots, k b o hb e⟩, fun b o e n hb => n, fun b o e hb => ⟨o, k b o hb e⟩, fun b ys q => q, fun b u ys q => q, fun b ps q => ⟨#[], by rw [q]; simp⟩⟩ (fun b u e => ?_) I.bare fun b hb => ⟨(hf b hb).2.2.2.1, (hf b hb).2.1, (hf b hb).2.2.2.2.1, (hf b hb).2.2.2.2.2⟩
  refine (I.hok b u e).stay (fun c v hc q => k c v ?_ q) (fun c q => q) fun c ys q => q
  rcases hc with z | z
  · rw [z]; exact nch b u e
  · exact nch c _ z
end
end L2
set_option Elab.async false
set_option linter.all false
set_option maxRecDepth 100000
namespace L2
open PySem PySem.Spec PyProof.Rows
inductive M where
  | non | bl (b : Bool) | int (i : Int) | str (x : Str) | ty (n : String)
  | tup (xs : List M) | lst (xs : List M) | dct (ks : List Key) (xs : List M) | ref (k : Nat) | scr (ns : List Int)
inductive MO where
  | lst (xs : List M) | dct (kvs : List (Key × M))
abbrev HpM := List MO
abbrev EnvM := List (Option M)
abbrev FE := EnvM → HpM → Option (M × HpM)
abbrev FA := EnvM → HpM → Option (List M × HpM)
abbrev FT := EnvM → HpM → Option (Bool × HpM)
abbrev FF := List M → HpM → Option (M × HpM)
inductive Out where
  | nx (ρ : EnvM) | bk (ρ : EnvM) | ct (ρ : EnvM) | rt (d : M)
abbrev FS := EnvM → HpM → Option (Out × HpM)
abbrev FG := M → EnvM → HpM → Option (EnvM × HpM)

structure Pl where
  a : List Addr
  g : List Addr
def Pl.no (α : Pl) (b : Addr) : Prop := b ∉ α.a ∧ b ∉ α.g
noncomputable def Pl.add (α : Pl) (b : Addr) : Pl := ⟨α.a ++ [b], α.g⟩
noncomputable def Pl.hide (α : Pl) (b : Addr) : Pl := ⟨α.a, b :: α.g⟩
def TupAt (K : PySem.W.Frag) (α : Pl) (H : Hp) (a : Addr) (vs : List V) : Prop :=
  (Rd H a (.tup vs) ∧ α.no a) ∨
    ∃ (o : Obj) (its : Array Value) (n : Nat), K.lookup a = some o ∧ o.cls = .type "tuple" ∧ o.data = .seq its n ∧ its.size ≤ sizeLine ∧ Vals vs its.toList
def ScrAt (K : PySem.W.Frag) (α : Pl) (H : Hp) (a : Addr) (vs : List V) : Prop :=
  (Rd H a (.lst vs) ∧ α.no a) ∨
    ∃ (o : Obj) (its : Array Value) (n : Nat), K.lookup a = some o ∧ o.cls = .type "list" ∧ o.dict = none ∧ o.data = .seq its n ∧ its.size ≤ sizeLine ∧ Vals vs its.toList
mutual
noncomputable def RepA (K : PySem.W.Frag) (α : Pl) (H : Hp) : M → V → Prop
  | .non, v => v = .non
  | .bl b, v => v = .bl b
  | .int i, v => v = .int i
  | .str x, v => v = .str x
  | .ty n, v => v = .ty n
  | .tup xs, v => ∃ a vs, v = .ref a ∧ TupAt K α H a vs ∧ RepAs K α H xs vs
  | .scr ns, v => ∃ a, v = .ref a ∧ ScrAt K α H a (ns.map V.int)
  | .lst xs, v => ∃ a vs, v = .ref a ∧ α.no a ∧ H a = some (.lst vs) ∧ RepAs K α H xs vs
  | .dct ks xs, v => ∃ a ws, v = .ref a ∧ α.no a ∧ H a = some (.dK ws) ∧ ws.map (·.1) = ks ∧ RepAs K α H xs (ws.map (·.2))
  | .ref k, v => ∃ a, α.a[k]? = some a ∧ v = .ref a
noncomputable def RepAs (K : PySem.W.Frag) (α : Pl) (H : Hp) : List M → List V → Prop
  | [], vs => vs = []
  | x :: xs, vs => ∃ v r, vs = v :: r ∧ RepA K α H x v ∧ RepAs K α H xs r
end
noncomputable def RepO (K : PySem.W.Frag) (α : Pl) (H : Hp) : MO → Addr → Prop
  | .lst xs, a => ∃ vs, H a = some (.lst vs) ∧ RepAs K α H xs vs
  | .dct kvs, a => ∃ ws, H a = some (.dK ws) ∧ ws.map (·.1) = kvs.map (·.1) ∧ RepAs K α H (kvs.map (·.2)) (ws.map (·.2))
structure Rl (K : PySem.W.Frag) (α : Pl) (h : HpM) (H : Hp) : Prop where
  len : α.a.length = h.length
  nd : α.a.Nodup
  ap : ∀ b ∈ α.a, b ∉ α.g
  hid : ∀ b ∈ α.g, ∃ o, H b = some o
  obj : ∀ (k : Nat) (a : Addr) (o : MO), α.a[k]? = some a → h[k]? = some o → RepO K α H o a
structure Ev (α α' : Pl) (H H' : Hp) : Prop where
  pre : α'.g = α.g ∧ ∃ β, α'.a = α.a ++ β ∧ ∀ b ∈ β, H b = none
  keep : ∀ b o, H b = some o → b ∉ α.a → H' b = some o
  dom : ∀ b, H' b = none → H b = none
def REnv (K : PySem.W.Frag) (α : Pl) (H : Hp) (ρ : EnvM) (σ : St) : Prop :=
  ρ.length = σ.length ∧ ∀ (i : Nat) (m : M), ρ[i]? = some (some m) → ∃ v, σ[i]? = some (some v) ∧ RepA K α H m v

theorem Ev.refl {α : Pl} {H : Hp} : Ev α α H H := ⟨⟨rfl, [], by simp, by simp⟩, fun _ _ e _ => e, fun _ e => e⟩
theorem Ev.notA {α α' : Pl} {H H' : Hp} (e : Ev α α' H H') {b : Addr} {o : HO} (hb : H b = some o) (n : b ∉ α.a) : b ∉ α'.a := by
  obtain ⟨_, β, e1, f⟩ := e.pre
  intro h
  rw [e1] at h
  rcases List.mem_append.mp h with h | h
  · exact n h
  · rw [f b h] at hb; cases hb
theorem Ev.notMem {α α' : Pl} {H H' : Hp} (e : Ev α α' H H') {b : Addr} {o : HO} (hb : H b = some o) (n : α.no b) : α'.no b := ⟨e.notA hb n.1, by rw [e.pre.1]; exact n.2⟩
theorem Ev.trans {α α1 α2 : Pl} {H H1 H2 : Hp} (e : Ev α α1 H H1) (f : Ev α1 α2 H1 H2) : Ev α α2 H H2 := by
  refine ⟨?_, fun b o hb n => f.keep b o (e.keep b o hb n) (e.notA hb n), fun b hb => e.dom b (f.dom b hb)⟩
  obtain ⟨g1, β, e1, f1⟩ := e.pre
  obtain ⟨g2, γ, e2, f2⟩ := f.pre
  refine ⟨g2.trans g1, β ++ γ, by rw [e2, e1, List.append_assoc], fun b hb => ?_⟩
  rcases List.mem_append.mp hb with hb | hb
  · exact f1 b hb
  · exact e.dom b (f2 b hb)
theorem Ev.same {α : Pl} {H H' : Hp} (s : Same H H') : Ev α α H H' := ⟨⟨rfl, [], by simp, by simp⟩, fun b o e _ => s b o e, fun b e => by
  cases h : H b with
  | none => rfl
  | some o => rw [s b o h] at e; cases e⟩
theorem Ev.rd {α α' : Pl} {H H' : Hp} (e : Ev α α' H H') {a : Addr} {u : HO} (r : Rd H a u) (n : α.no a) : Rd H' a u ∧ α'.no a := by
  rcases r with r | ⟨o, r⟩
  · exact ⟨.inl (e.keep _ _ r n.1), e.notMem r n⟩
  · exact ⟨.inr ⟨o, e.keep _ _ r n.1⟩, e.notMem r n⟩
theorem Ev.ix {α α' : Pl} {H H' : Hp} (e : Ev α α' H H') {k : Nat} {a : Addr} (h : α.a[k]? = some a) : α'.a[k]? = some a := by
  obtain ⟨_, β, e1, _⟩ := e.pre
  have hk : k < α.a.length := (List.getElem?_eq_some_iff.mp h).1
  rw [e1, List.getElem?_append_left hk]; exact h
theorem TupAt.ev {K : PySem.W.Frag} {α α' : Pl} {H H' : Hp} (e : Ev α α' H H') {a : Addr} {vs : List V} (t : TupAt K α H a vs) : TupAt K α' H' a vs := by
  rcases t with ⟨r, n⟩ | t
  · exact .inl (e.rd r n)
  · exact .inr t
theorem TupAt.sq {K : PySem.W.Frag} {α : Pl} {H : Hp} {a : Addr} {vs : List V} (t : TupAt K α H a vs) : SqT K H a vs := by
  rcases t with ⟨r, _⟩ | t
  · exact .inl r
  · exact .inr t
theorem ScrAt.ev {K : PySem.W.Frag} {α α' : Pl} {H H' : Hp} (e : Ev α α' H H') {a : Addr} {vs : List V} (t : ScrAt K α H a vs) : ScrAt K α' H' a vs := by
  rcases t with ⟨r, n⟩ | t
  · exact .inl (e.rd r n)
  · exact .inr t
theorem ScrAt.sq {K : PySem.W.Frag} {α : Pl} {H : Hp} {a : Addr} {vs : List V} (t : ScrAt K α H a vs) : SqL K H a vs := by
  rcases t with ⟨r, _⟩ | t
  · exact .inl r
  · exact .inr t
mutual
theorem RepA.ev {K : PySem.W.Frag} {α α' : Pl} {H H' : Hp} (e : Ev α α' H H') : ∀ {m : M} {v : V}, RepA K α H m v → RepA K α' H' m v
  | .non, _, h => h
  | .bl _, _, h => h
  | .int _, _, h => h
  | .str _, _, h => h
  | .ty _, _, h => h
  | .tup xs, _, ⟨a, vs, e1, t, r⟩ => ⟨a, vs, e1, t.ev e, RepAs.ev e r⟩
  | .scr ns, _, ⟨a, e1, t⟩ => ⟨a, e1, t.ev e⟩
  | .lst xs, _, ⟨a, vs, e1, n, t, r⟩ => ⟨a, vs, e1, e.notMem t n, e.keep _ _ t n.1, RepAs.ev e r⟩
  | .dct ks xs, _, ⟨a, ws, e1, n, t, ek, r⟩ => ⟨a, ws, e1, e.notMem t n, e.keep _ _ t n.1, ek, RepAs.ev e r⟩
  | .ref k, _, ⟨a, h, e1⟩ => ⟨a, e.ix h, e1⟩
theorem RepAs.ev {K : PySem.W.Frag} {α α' : Pl} {H H' : Hp} (e : Ev α α' H H') : ∀ {xs : List M} {vs : List V}, RepAs K α H xs vs → RepAs K α' H' xs vs
  | [], _, h => h
  | x :: xs, _, ⟨v, r, e1, h1, h2⟩ => ⟨v, r, e1, RepA.ev e h1, RepAs.ev e h2⟩
end
theorem REnv.ev {K : PySem.W.Frag} {α α' : Pl} {H H' : Hp} (e : Ev α α' H H') {ρ : EnvM} {σ : St} (r : REnv K α H ρ σ) : REnv K α' H' ρ σ :=
  ⟨r.1, fun i m h => by obtain ⟨v, h1, h2⟩ := r.2 i m h; exact ⟨v, h1, h2.ev e⟩⟩
theorem RepAs.length {K : PySem.W.Frag} {α : Pl} {H : Hp} : ∀ {xs : List M} {vs : List V}, RepAs K α H xs vs → xs.length = vs.length
  | [], _, h => by cases (show _ = [] from h); rfl
  | x :: xs, _, ⟨v, r, e1, _, h2⟩ => by subst e1; simp [RepAs.length h2]
theorem RepAs.get {K : PySem.W.Frag} {α : Pl} {H : Hp} : ∀ {xs : List M} {vs : List V} {i : Nat} {m : M}, RepAs K α H xs vs → xs[i]? = some m → ∃ v, vs[i]? = some v ∧ RepA K α H m v
  | [], _, _, _, _, h => by simp at h
  | x :: xs, _, 0, m, ⟨v, r, e1, h1, h2⟩, h => by subst e1; simp at h; subst h; exact ⟨v, rfl, h1⟩
  | x :: xs, _, i + 1, m, ⟨v, r, e1, h1, h2⟩, h => by subst e1; simpa using RepAs.get (i := i) h2 (by simpa using h)
theorem RepAs.app {K : PySem.W.Frag} {α : Pl} {H : Hp} : ∀ {xs : List M} {vs : List V} {ys : List M} {ws : List V}, RepAs K α H xs vs → RepAs K α H ys ws → RepAs K α H (xs ++ ys) (vs ++ ws)
  | [], _, _, _, h, h' => by cases (show _ = [] from h); exact h'
  | x :: xs, _, _, _, ⟨v, r, e1, h1, h2⟩, h' => by subst e1; exact ⟨v, _, rfl, h1, RepAs.app h2 h'⟩
theorem RepAs.drop {K : PySem.W.Frag} {α : Pl} {H : Hp} : ∀ {xs : List M} {vs : List V} (n : Nat), RepAs K α H xs vs → RepAs K α H (xs.drop n) (vs.drop n)
  | _, _, 0, h => h
  | [], _, _ + 1, h => by cases (show _ = [] from h); exact rfl
  | x :: xs, _, n + 1, ⟨v, r, e1, h1, h2⟩ => by subst e1; exact RepAs.drop n h2
theorem RepAs.take {K : PySem.W.Frag} {α : Pl} {H : Hp} : ∀ {xs : List M} {vs : List V} (n : Nat), RepAs K α H xs vs → RepAs K α H (xs.take n) (vs.take n)
  | _, _, 0, h => by simp only [List.take_zero]; exact rfl
  | [], _, _ + 1, h => by cases (show _ = [] from h); exact rfl
  | x :: xs, _, n + 1, ⟨v, r, e1, h1, h2⟩ => by subst e1; exact ⟨v, _, rfl, h1, RepAs.take n h2⟩
theorem RepAs.set {K : PySem.W.Frag} {α : Pl} {H : Hp} {m : M} {v : V} (hm : RepA K α H m v) : ∀ {xs : List M} {vs : List V} (n : Nat), RepAs K α H xs vs → RepAs K α H (xs.set n m) (vs.set n v)
  | [], _, n, h => by cases (show _ = [] from h); exact rfl
  | x :: xs, _, 0, ⟨v, r, e1, h1, h2⟩ => by subst e1; exact ⟨_, _, rfl, hm, h2⟩
  | x :: xs, _, n + 1, ⟨v, r, e1, h1, h2⟩ => by subst e1; exact ⟨v, _, rfl, h1, RepAs.set hm n h2⟩
theorem RepAs.snoc {K : PySem.W.Frag} {α : Pl} {H : Hp} {xs : List M} {vs : List V} {m : M} {v : V} (h : RepAs K α H xs vs) (hm : RepA K α H m v) : RepAs K α H (xs ++ [m]) (vs ++ [v]) := h.app ⟨v, [], rfl, hm, rfl⟩
theorem RepAs.at {K : PySem.W.Frag} {α : Pl} {H : Hp} {xs : List M} {vs : List V} {i : Int} {m : M} (h : RepAs K α H xs vs) (e : atI xs i = some m) : ∃ v, atI vs i = some v ∧ RepA K α H m v := by
  unfold atI at e ⊢
  rw [← h.length]
  cases q : ixN xs.length i with
  | none => rw [q] at e; cases e
  | some j =>
    rw [q] at e
    exact h.get e
theorem Rl.same {K : PySem.W.Frag} {α : Pl} {h : HpM} {H H' : Hp} (r : Rl K α h H) (s : Same H H') : Rl K α h H' :=
  ⟨r.len, r.nd, r.ap, fun b hb => by
    obtain ⟨o, e⟩ := r.hid b hb
    exact ⟨o, s b o e⟩, fun k a o hk ho => by
    have e : Ev α α H H' := Ev.same s
    have q := r.obj k a o hk ho
    cases o with
    | lst xs => obtain ⟨vs, h1, h2⟩ := q; exact ⟨vs, s _ _ h1, h2.ev e⟩
    | dct kvs => obtain ⟨ws, h1, h2, h3⟩ := q; exact ⟨ws, s _ _ h1, h2, h3.ev e⟩⟩
theorem Rl.some_at {K : PySem.W.Frag} {α : Pl} {h : HpM} {H : Hp} (r : Rl K α h H) {a : Addr} (ha : a ∈ α.a) : ∃ o, H a = some o := by
  obtain ⟨k, hk⟩ := List.getElem?_of_mem ha
  have hl : k < h.length := by rw [← r.len]; exact (List.getElem?_eq_some_iff.mp hk).1
  have q := r.obj k a h[k] hk (by simp [hl])
  revert q
  cases h[k] with
  | lst xs => rintro ⟨vs, h1, _⟩; exact ⟨_, h1⟩
  | dct kvs => rintro ⟨vs, h1, _⟩; exact ⟨_, h1⟩
theorem Ev.write {K : PySem.W.Frag} {α : Pl} {h : HpM} {H : Hp} (r : Rl K α h H) {a : Addr} (ha : a ∈ α.a) {u : HO} : Ev α α H (upd H a u) :=
  ⟨⟨rfl, [], by simp, by simp⟩, fun b o e n => by
    have hba : b ≠ a := by intro z; subst z; exact n ha
    rw [upd_ne hba]; exact e, fun b e => by
    by_cases hb : b = a
    · subst hb; rw [upd_same] at e; cases e
    · rw [upd_ne hb] at e; exact e⟩
theorem Rl.write {K : PySem.W.Frag} {α : Pl} {h : HpM} {H : Hp} (r : Rl K α h H) {k : Nat} {a : Addr} (ha : α.a[k]? = some a) {u : HO} {o : MO} (ho : RepO K α (upd H a u) o a) : Rl K α (h.set k o) (upd H a u) := by
  have e : Ev α α H (upd H a u) := Ev.write r (List.mem_of_getElem? ha)
  refine ⟨by simp [r.len], r.nd, r.ap, fun b hb => by
    obtain ⟨o, e⟩ := r.hid b hb
    by_cases z : b = a
    · subst z; exact ⟨_, upd_same⟩
    · exact ⟨o, by rw [upd_ne z]; exact e⟩, fun j b o' hj ho' => ?_⟩
  by_cases hjk : j = k
  · subst hjk
    rw [ha] at hj; cases hj
    have hl : j < h.length := by rw [← r.len]; exact (List.getElem?_eq_some_iff.mp ha).1
    rw [List.getElem?_set_self hl] at ho'; cases ho'
    exact ho
  · rw [List.getElem?_set_ne (fun z => hjk z.symm)] at ho'
    have hba : b ≠ a := fun z => by
      subst z
      have hjl := (List.getElem?_eq_some_iff.mp hj)
      have hkl := (List.getElem?_eq_some_iff.mp ha)
      exact hjk ((List.getElem_inj r.nd).mp (hjl.2.trans hkl.2.symm))
    have q := r.obj j b o' hj ho'
    cases o' with
    | lst xs => obtain ⟨vs, h1, h2⟩ := q; exact ⟨vs, by rw [upd_ne hba]; exact h1, h2.ev e⟩
    | dct kvs => obtain ⟨ws, h1, h2, h3⟩ := q; exact ⟨ws, by rw [upd_ne hba]; exact h1, h2, h3.ev e⟩
theorem Ev.alloc {α : Pl} {H : Hp} {p : Addr} (hp : H p = none) {u : HO} : Ev α (α.add p) H (upd H p u) :=
  ⟨⟨rfl, [p], rfl, fun b hb => by rw [List.mem_singleton.mp hb]; exact hp⟩, fun b o e _ => upd_new e hp, fun b e => by
    by_cases hb : b = p
    · subst hb; exact hp
    · rw [upd_ne hb] at e; exact e⟩
theorem Rl.newA {K : PySem.W.Frag} {α : Pl} {h : HpM} {H : Hp} (r : Rl K α h H) {p : Addr} (hp : H p = none) : p ∉ α.a := fun hm => by
  obtain ⟨o, e⟩ := r.some_at hm
  rw [hp] at e; cases e
theorem Rl.new {K : PySem.W.Frag} {α : Pl} {h : HpM} {H : Hp} (r : Rl K α h H) {p : Addr} (hp : H p = none) : α.no p := ⟨r.newA hp, fun hm => by
  obtain ⟨o, e⟩ := r.hid p hm
  rw [hp] at e; cases e⟩
theorem Rl.alloc {K : PySem.W.Frag} {α : Pl} {h : HpM} {H : Hp} (r : Rl K α h H) {p : Addr} (hp : H p = none) {u : HO} {o : MO} (ho : RepO K (α.add p) (upd H p u) o p) : Rl K (α.add p) (h ++ [o]) (upd H p u) := by
  have e : Ev α (α.add p) H (upd H p u) := Ev.alloc hp
  refine ⟨by simp [r.len, Pl.add], ?_, fun b hb => ?_, fun b hb => ?_, fun j b o' hj ho' => ?_⟩
  · show (α.a ++ [p]).Nodup
    rw [List.nodup_append]
    refine ⟨r.nd, by simp, fun x hx y hy => ?_⟩
    rw [List.mem_singleton.mp hy]
    exact fun z => r.newA hp (z ▸ hx)
  · rcases List.mem_append.mp (show b ∈ α.a ++ [p] from hb) with hb | hb
    · exact r.ap b hb
    · rw [List.mem_singleton.mp hb]; exact (r.new hp).2
  · obtain ⟨o, e⟩ := r.hid b hb
    exact ⟨o, upd_new e hp⟩
  · have hj : (α.a ++ [p])[j]? = some b := hj
    by_cases hl : j < α.a.length
    · rw [List.getElem?_append_left hl] at hj
      rw [List.getElem?_append_left (by rw [← r.len]; exact hl)] at ho'
      have q := r.obj j b o' hj ho'
      cases o' with
      | lst xs => obtain ⟨vs, h1, h2⟩ := q; exact ⟨vs, upd_new h1 hp, h2.ev e⟩
      | dct kvs => obtain ⟨ws, h1, h2, h3⟩ := q; exact ⟨ws, upd_new h1 hp, h2, h3.ev e⟩
    · have hj' : j < α.a.length + 1 := by simpa using (List.getElem?_eq_some_iff.mp hj).1
      have ej : j = α.a.length := by omega
      subst ej
      rw [List.getElem?_append_right (Nat.le_refl _)] at hj
      simp at hj
      rw [r.len, List.getElem?_append_right (Nat.le_refl _)] at ho'
      simp at ho'
      subst hj ho'
      exact ho
mutual
theorem RepA.hide {K : PySem.W.Frag} {α : Pl} {H : Hp} {p : Addr} (hp : H p = none) : ∀ {m : M} {v : V}, RepA K α H m v → RepA K (α.hide p) H m v
  | .non, _, h => h
  | .bl _, _, h => h
  | .int _, _, h => h
  | .str _, _, h => h
  | .ty _, _, h => h
  | .tup xs, _, ⟨a, vs, e1, t, r⟩ => ⟨a, vs, e1, t.elim (fun ⟨q, n⟩ => .inl ⟨q, n.1, fun hm => by
      rcases List.mem_cons.mp hm with z | z
      · subst z; rcases q with q | ⟨_, q⟩ <;> (rw [hp] at q; cases q)
      · exact n.2 z⟩) .inr, RepAs.hide hp r⟩
  | .scr ns, _, ⟨a, e1, t⟩ => ⟨a, e1, t.elim (fun ⟨q, n⟩ => .inl ⟨q, n.1, fun hm => by
      rcases List.mem_cons.mp hm with z | z
      · subst z; rcases q with q | ⟨_, q⟩ <;> (rw [hp] at q; cases q)
      · exact n.2 z⟩) .inr⟩
  | .lst xs, _, ⟨a, vs, e1, n, t, r⟩ => ⟨a, vs, e1, ⟨n.1, fun hm => by
      rcases List.mem_cons.mp hm with z | z
      · subst z; rw [hp] at t; cases t
      · exact n.2 z⟩, t, RepAs.hide hp r⟩
  | .dct ks xs, _, ⟨a, ws, e1, n, t, ek, r⟩ => ⟨a, ws, e1, ⟨n.1, fun hm => by
      rcases List.mem_cons.mp hm with z | z
      · subst z; rw [hp] at t; cases t
      · exact n.2 z⟩, t, ek, RepAs.hide hp r⟩
  | .ref k, _, h => h
theorem RepAs.hide {K : PySem.W.Frag} {α : Pl} {H : Hp} {p : Addr} (hp : H p = none) : ∀ {xs : List M} {vs : List V}, RepAs K α H xs vs → RepAs K (α.hide p) H xs vs
  | [], _, h => h
  | x :: xs, _, ⟨v, r, e1, h1, h2⟩ => ⟨v, r, e1, RepA.hide hp h1, RepAs.hide hp h2⟩
end
mutual
theorem RepA.show {K : PySem.W.Frag} {α : Pl} {H : Hp} {p : Addr} : ∀ {m : M} {v : V}, RepA K (α.hide p) H m v → RepA K α H m v
  | .non, _, h => h
  | .bl _, _, h => h
  | .int _, _, h => h
  | .str _, _, h => h
  | .ty _, _, h => h
  | .tup xs, _, ⟨a, vs, e1, t, r⟩ => ⟨a, vs, e1, t.elim (fun ⟨q, n⟩ => .inl ⟨q, n.1, fun hm => n.2 (List.mem_cons_of_mem _ hm)⟩) .inr, RepAs.show r⟩
  | .scr ns, _, ⟨a, e1, t⟩ => ⟨a, e1, t.elim (fun ⟨q, n⟩ => .inl ⟨q, n.1, fun hm => n.2 (List.mem_cons_of_mem _ hm)⟩) .inr⟩
  | .lst xs, _, ⟨a, vs, e1, n, t, r⟩ => ⟨a, vs, e1, ⟨n.1, fun hm => n.2 (List.mem_cons_of_mem _ hm)⟩, t, RepAs.show r⟩
  | .dct ks xs, _, ⟨a, ws, e1, n, t, ek, r⟩ => ⟨a, ws, e1, ⟨n.1, fun hm => n.2 (List.mem_cons_of_mem _ hm)⟩, t, ek, RepAs.show r⟩
  | .ref k, _, h => h
theorem RepAs.show {K : PySem.W.Frag} {α : Pl} {H : Hp} {p : Addr} : ∀ {xs : List M} {vs : List V}, RepAs K (α.hide p) H xs vs → RepAs K α H xs vs
  | [], _, h => h
  | x :: xs, _, ⟨v, r, e1, h1, h2⟩ => ⟨v, r, e1, RepA.show h1, RepAs.show h2⟩
end
mutual
theorem RepA.hw {K : PySem.W.Frag} {α : Pl} {H : Hp} {p : Addr} {u : HO} (hp : p ∈ α.g) : ∀ {m : M} {v : V}, RepA K α H m v → RepA K α (upd H p u) m v
  | .non, _, h => h
  | .bl _, _, h => h
  | .int _, _, h => h
  | .str _, _, h => h
  | .ty _, _, h => h
  | .tup xs, _, ⟨a, vs, e1, t, r⟩ => ⟨a, vs, e1, t.elim (fun ⟨q, n⟩ => .inl ⟨by
      have hn : a ≠ p := by intro z; subst z; exact n.2 hp
      rcases q with q | ⟨o, q⟩
      · exact .inl (by rw [upd_ne hn]; exact q)
      · exact .inr ⟨o, by rw [upd_ne hn]; exact q⟩, n⟩) .inr, RepAs.hw hp r⟩
  | .scr ns, _, ⟨a, e1, t⟩ => ⟨a, e1, t.elim (fun ⟨q, n⟩ => .inl ⟨by
      have hn : a ≠ p := by intro z; subst z; exact n.2 hp
      rcases q with q | ⟨o, q⟩
      · exact .inl (by rw [upd_ne hn]; exact q)
      · exact .inr ⟨o, by rw [upd_ne hn]; exact q⟩, n⟩) .inr⟩
  | .lst xs, _, ⟨a, vs, e1, n, t, r⟩ => ⟨a, vs, e1, n, by
      have hn : a ≠ p := by intro z; subst z; exact n.2 hp
      rw [upd_ne hn]; exact t, RepAs.hw hp r⟩
  | .dct ks xs, _, ⟨a, ws, e1, n, t, ek, r⟩ => ⟨a, ws, e1, n, by
      have hn : a ≠ p := by intro z; subst z; exact n.2 hp
      rw [upd_ne hn]; exact t, ek, RepAs.hw hp r⟩
  | .ref k, _, h => h
theorem RepAs.hw {K : PySem.W.Frag} {α : Pl} {H : Hp} {p : Addr} {u : HO} (hp : p ∈ α.g) : ∀ {xs : List M} {vs : List V}, RepAs K α H xs vs → RepAs K α (upd H p u) xs vs
  | [], _, h => h
  | x :: xs, _, ⟨v, r, e1, h1, h2⟩ => ⟨v, r, e1, RepA.hw hp h1, RepAs.hw hp h2⟩
end
theorem Rl.hw {K : PySem.W.Frag} {α : Pl} {h : HpM} {H : Hp} {p : Addr} {u : HO} (r : Rl K α h H) (hp : p ∈ α.g) : Rl K α h (upd H p u) :=
  ⟨r.len, r.nd, r.ap, fun b hb => by
    by_cases z : b = p
    · subst z; exact ⟨_, upd_same⟩
    · obtain ⟨o, e⟩ := r.hid b hb
      exact ⟨o, by rw [upd_ne z]; exact e⟩, fun k a o hk ho => by
    have hn : a ≠ p := by intro z; subst z; exact r.ap _ (List.mem_of_getElem? hk) hp
    have q := r.obj k a o hk ho
    cases o with
    | lst xs => obtain ⟨vs, h1, h2⟩ := q; exact ⟨vs, by rw [upd_ne hn]; exact h1, h2.hw hp⟩
    | dct kvs => obtain ⟨ws, h1, h2, h3⟩ := q; exact ⟨ws, by rw [upd_ne hn]; exact h1, h2, h3.hw hp⟩⟩
theorem REnv.hw {K : PySem.W.Frag} {α : Pl} {H : Hp} {ρ : EnvM} {σ : St} {p : Addr} {u : HO} (r : REnv K α H ρ σ) (hp : p ∈ α.g) : REnv K α (upd H p u) ρ σ :=
  ⟨r.1, fun i m h => by obtain ⟨v, h1, h2⟩ := r.2 i m h; exact ⟨v, h1, h2.hw hp⟩⟩
theorem REnv.hide {K : PySem.W.Frag} {α : Pl} {H : Hp} {ρ : EnvM} {σ : St} {p : Addr} (r : REnv K α H ρ σ) (hp : H p = none) : REnv K (α.hide p) H ρ σ :=
  ⟨r.1, fun i m h => by obtain ⟨v, h1, h2⟩ := r.2 i m h; exact ⟨v, h1, h2.hide hp⟩⟩
theorem Rl.lay {K : PySem.W.Frag} {α : Pl} {h : HpM} {H : Hp} {p : Addr} {u : HO} (r : Rl K α h H) (hp : H p = none) : Rl K (α.hide p) h (upd H p u) :=
  have s : Same H (upd H p u) := same_new hp u
  ⟨r.len, r.nd, fun b hb hm => by
    rcases List.mem_cons.mp hm with z | z
    · subst z; exact r.newA hp hb
    · exact r.ap b hb z, fun b hb => by
    rcases List.mem_cons.mp hb with z | z
    · subst z; exact ⟨_, upd_same⟩
    · obtain ⟨o, e⟩ := r.hid b z
      exact ⟨o, s b o e⟩, fun k a o hk ho => by
    have q := r.obj k a o hk ho
    cases o with
    | lst xs => obtain ⟨vs, h1, h2⟩ := q; exact ⟨vs, s _ _ h1, (h2.hide hp).ev (.same s)⟩
    | dct kvs => obtain ⟨ws, h1, h2, h3⟩ := q; exact ⟨ws, s _ _ h1, h2, (h3.hide hp).ev (.same s)⟩⟩
theorem Rl.show {K : PySem.W.Frag} {α : Pl} {h : HpM} {H : Hp} {p : Addr} (r : Rl K (α.hide p) h H) : Rl K α h H :=
  ⟨r.len, r.nd, fun b hb hm => r.ap b hb (List.mem_cons_of_mem _ hm), fun b hb => r.hid b (List.mem_cons_of_mem _ hb), fun k a o hk ho => by
    have q := r.obj k a o hk ho
    cases o with
    | lst xs => obtain ⟨vs, h1, h2⟩ := q; exact ⟨vs, h1, h2.show⟩
    | dct kvs => obtain ⟨ws, h1, h2, h3⟩ := q; exact ⟨ws, h1, h2, h3.show⟩⟩

theorem Ev.unhide {α α' : Pl} {H H' : Hp} {p : Addr} (e : Ev (α.hide p) (α'.hide p) H H') : Ev α α' H H' :=
  ⟨⟨(List.cons.inj e.pre.1).2, e.pre.2⟩, e.keep, e.dom⟩
theorem Ev.hw {α α' : Pl} {H H' : Hp} {p : Addr} {u : HO} (e : Ev α α' H H') (hp : H p = none) : Ev α α' H (upd H' p u) :=
  ⟨e.pre, fun b o hb n => by
    have z : b ≠ p := by intro z; subst z; rw [hp] at hb; cases hb
    rw [upd_ne z]; exact e.keep b o hb n, fun b hb => by
    by_cases z : b = p
    · subst z; exact hp
    · rw [upd_ne z] at hb; exact e.dom b hb⟩

def tM (K : PySem.W.Frag) (m : FE) : TE := fun σ H Q => ∃ α ρ h d h', REnv K α H ρ σ ∧ Rl K α h H ∧ m ρ h = some (d, h') ∧ ∀ α' H' v, Ev α α' H H' → Rl K α' h' H' → RepA K α' H' d v → Q v H'
noncomputable def aM (K : PySem.W.Frag) (m : FA) : TA := fun σ H Q => ∃ α ρ h d h', REnv K α H ρ σ ∧ Rl K α h H ∧ m ρ h = some (d, h') ∧ ∀ α' H' v, Ev α α' H H' → Rl K α' h' H' → RepAs K α' H' d v → Q v H'
noncomputable def bM (K : PySem.W.Frag) (m : FT) : TT := fun σ H Q => ∃ α ρ h d h', REnv K α H ρ σ ∧ Rl K α h H ∧ m ρ h = some (d, h') ∧ ∀ α' H', Ev α α' H H' → Rl K α' h' H' → Q d H'
noncomputable def Fin (K : PySem.W.Frag) (D : Ends) (α' : Pl) (H' : Hp) : Out → Prop
  | .nx ρ => ∀ σ, REnv K α' H' ρ σ → D.nx σ H'
  | .bk ρ => ∀ σ, REnv K α' H' ρ σ → D.bk σ H'
  | .ct ρ => ∀ σ, REnv K α' H' ρ σ → D.ct σ H'
  | .rt d => ∀ v, RepA K α' H' d v → D.rt v H'
def sM (K : PySem.W.Frag) (m : FS) : TS := fun D σ H => ∃ α ρ h o h', REnv K α H ρ σ ∧ Rl K α h H ∧ m ρ h = some (o, h') ∧ ∀ α' H', Ev α α' H H' → Rl K α' h' H' → Fin K D α' H' o
noncomputable def gM (K : PySem.W.Frag) (m : FG) : TG := fun v σ H Q => ∃ α ρ h x ρ' h', REnv K α H ρ σ ∧ Rl K α h H ∧ RepA K α H x v ∧ m x ρ h = some (ρ', h') ∧ ∀ α' H' σ', Ev α α' H H' → Rl K α' h' H' → REnv K α' H' ρ' σ' → Q σ' H'
abbrev FGs := List M → EnvM → HpM → Option (EnvM × HpM)
noncomputable def gsM (K : PySem.W.Frag) (m : FGs) : TGs := fun v σ H Q => ∃ α ρ h x ρ' h', REnv K α H ρ σ ∧ Rl K α h H ∧ RepAs K α H x v ∧ m x ρ h = some (ρ', h') ∧ ∀ α' H' σ', Ev α α' H H' → Rl K α' h' H' → REnv K α' H' ρ' σ' → Q σ' H'
noncomputable def spM (K : PySem.W.Frag) (m : FF) : Sp := fun vs H Q _ => ∃ α h ds d h', RepAs K α H ds vs ∧ Rl K α h H ∧ m ds h = some (d, h') ∧ ∀ α' H' v, Ev α α' H H' → Rl K α' h' H' → RepA K α' H' d v → Q v H'
section
variable {X : Cx}
theorem PE.imp {e : Expr} {t t' : TE} (h : PE X e t) (i : ∀ σ H Q, t' σ H Q → t σ H Q) : PE X e t' := fun pins s σ H Q I q => h pins s σ H Q I (i σ H Q q)
theorem PT.imp {e : Expr} {t t' : TT} (h : PT X e t) (i : ∀ σ H Q, t' σ H Q → t σ H Q) : PT X e t' := fun pins s σ H Q I q => h pins s σ H Q I (i σ H Q q)
theorem PW.imp {e : Expr} {t t' : TT} (h : PW X e t) (i : ∀ σ H Q, t' σ H Q → t σ H Q) : PW X e t' := fun wh pins s σ H Q I q => h wh pins s σ H Q I (i σ H Q q)
theorem PA.imp {e : List Expr} {t t' : TA} (h : PA X e t) (i : ∀ σ H Q, t' σ H Q → t σ H Q) : PA X e t' := fun pos pins s σ H Q I q => h pos pins s σ H Q I (i σ H Q q)
theorem PS.imp {e : Stmt} {t t' : TS} (h : PS X e t) (i : ∀ D σ H, t' D σ H → t D σ H) : PS X e t' := fun pins s σ H D I q => h pins s σ H D I (i D σ H q)
theorem PSs.imp {e : List Stmt} {t t' : TS} (h : PSs X e t) (i : ∀ D σ H, t' D σ H → t D σ H) : PSs X e t' := fun pins s σ H D I q => h pins s σ H D I (i D σ H q)
theorem PG.imp {e : Expr} {t t' : TG} (h : PG X e t) (i : ∀ v σ H Q, t' v σ H Q → t v σ H Q) : PG X e t' := fun pins s σ H v u Q I r q => h pins s σ H v u Q I r (i v σ H Q q)
theorem PGs.imp {e : List Expr} {t t' : TGs} (h : PGs X e t) (i : ∀ v σ H Q, t' v σ H Q → t v σ H Q) : PGs X e t' := fun pins s σ H v u Q I r q => h pins s σ H v u Q I r (i v σ H Q q)
end
noncomputable def bnd {a b : Type} (x : Option (a × HpM)) (f : a → HpM → Option b) : Option b := match x with | some (y, h) => f y h | none => none
theorem bnd_inv {a b : Type} {x : Option (a × HpM)} {f : a → HpM → Option b} {r : b} (e : bnd x f = some r) : ∃ y h, x = some (y, h) ∧ f y h = some r := by
  unfold bnd at e
  split at e
  · exact ⟨_, _, rfl, e⟩
  · cases e
end L2
set_option Elab.async false
set_option linter.all false
set_option maxRecDepth 100000
namespace L2
open PySem PySem.Spec PyProof.Rows
noncomputable def mC (d : M) : FE := fun _ h => some (d, h)
noncomputable def mVar (i : Nat) : FE := fun ρ h => match ρ[i]? with | some (some m) => some (m, h) | _ => none
noncomputable def mNil : FA := fun _ h => some ([], h)
noncomputable def mCons (a : FE) (r : FA) : FA := fun ρ h => bnd (a ρ h) fun x h1 => bnd (r ρ h1) fun xs h2 => some (x :: xs, h2)
noncomputable def mTup (a : FA) : FE := fun ρ h => bnd (a ρ h) fun xs h1 => if xs.length ≤ 16777216 then some (.tup xs, h1) else none
noncomputable def mLst (a : FA) : FE := fun ρ h => bnd (a ρ h) fun xs h1 => if xs.length ≤ 16777216 then some (.lst xs, h1) else none
noncomputable def mLstH (a : FA) : FE := fun ρ h => bnd (a ρ h) fun xs h1 => if xs.length ≤ 16777216 then some (.ref h1.length, h1 ++ [.lst xs]) else none
noncomputable def mOp (f : M → M → HpM → Option M) (a b : FE) : FE := fun ρ h => bnd (a ρ h) fun x h1 => bnd (b ρ h1) fun y h2 => (f x y h2).map (·, h2)
noncomputable def mUn (f : M → HpM → Option M) (a : FE) : FE := fun ρ h => bnd (a ρ h) fun x h1 => (f x h1).map (·, h1)
noncomputable def mCB (f : List M → HpM → Option M) (a : FA) : FE := fun ρ h => bnd (a ρ h) fun xs h1 => (f xs h1).map (·, h1)
noncomputable def mCall (f : FF) (a : FA) : FE := fun ρ h => bnd (a ρ h) fun xs h1 => f xs h1
noncomputable def mMt (ok : M → HpM → Bool) (f : M → List M → HpM → Option (M × HpM)) (o : FE) (a : FA) : FE := fun ρ h => bnd (o ρ h) fun x h1 => if ok x h1 = true then bnd (a ρ h1) fun xs h2 => f x xs h2 else none
noncomputable def asB {a : Type} (x : M) (f : Bool → Option a) : Option a := match x with | .bl b => f b | _ => none
noncomputable def mAnd (a b : FE) : FE := fun ρ h => bnd (a ρ h) fun x h1 => asB x fun c => if c = true then b ρ h1 else some (.bl false, h1)
noncomputable def mOr (a b : FE) : FE := fun ρ h => bnd (a ρ h) fun x h1 => asB x fun c => if c = true then some (.bl true, h1) else b ρ h1
noncomputable def mNot (a : FE) : FE := fun ρ h => bnd (a ρ h) fun x h1 => asB x fun c => some (.bl (!c), h1)
noncomputable def mChain (f g : M → M → HpM → Option M) (a b c : FE) : FE := fun ρ h => bnd (a ρ h) fun x h1 => bnd (b ρ h1) fun y h2 => (f x y h2).bind fun z => asB z fun k => if k = true then bnd (c ρ h2) fun w h3 => (g y w h3).map (·, h3) else some (.bl false, h2)
noncomputable def mChain3 (f g g' : M → M → HpM → Option M) (a b c d : FE) : FE := fun ρ h => bnd (a ρ h) fun x h1 => bnd (b ρ h1) fun y h2 => (f x y h2).bind fun z => asB z fun k => if k = true then
  bnd (c ρ h2) fun w h3 => (g y w h3).bind fun z => asB z fun k => if k = true then bnd (d ρ h3) fun u h4 => (g' w u h4).map (·, h4) else some (.bl false, h3) else some (.bl false, h2)
noncomputable def tV (a : FE) : FT := fun ρ h => bnd (a ρ h) fun x h1 => asB x fun c => some (c, h1)
noncomputable def tAndM (a b : FT) : FT := fun ρ h => bnd (a ρ h) fun c h1 => if c = true then b ρ h1 else some (false, h1)
noncomputable def tOrM (a b : FT) : FT := fun ρ h => bnd (a ρ h) fun c h1 => if c = true then some (true, h1) else b ρ h1
noncomputable def tNotM (a : FT) : FT := fun ρ h => bnd (a ρ h) fun c h1 => some (!c, h1)
theorem asB_inv {a : Type} {x : M} {f : Bool → Option a} {r : a} (e : asB x f = some r) : ∃ b, x = .bl b ∧ f b = some r := by
  cases x <;> first | exact ⟨_, rfl, e⟩ | cases e
theorem map_inv {a : Type} {x : Option a} {h : HpM} {r : a × HpM} (e : x.map (·, h) = some r) : x = some r.1 ∧ r.2 = h := by
  cases x with
  | none => cases e
  | some y => cases e; exact ⟨rfl, rfl⟩
def OpM (K : PySem.W.Frag) (r : R2) (f : M → M → HpM → Option M) : Prop := ∀ (α : Pl) (h : HpM) (H : Hp) (x y d : M) (u v : V) (Q : VK), Rl K α h H → RepA K α H x u → RepA K α H y v → f x y h = some d → (∀ H' w, Same H H' → RepA K α H' d w → Q w H') → r u v H Q
def UnM (K : PySem.W.Frag) (r : V → Hp → VK → Prop) (f : M → HpM → Option M) : Prop := ∀ (α : Pl) (h : HpM) (H : Hp) (x d : M) (u : V) (Q : VK), Rl K α h H → RepA K α H x u → f x h = some d → (∀ H' w, Same H H' → RepA K α H' d w → Q w H') → r u H Q
def CallM (K : PySem.W.Frag) (r : List V → Hp → VK → Prop) (f : List M → HpM → Option M) : Prop := ∀ (α : Pl) (h : HpM) (H : Hp) (xs : List M) (d : M) (us : List V) (Q : VK), Rl K α h H → RepAs K α H xs us → f xs h = some d → (∀ H' w, Same H H' → RepA K α H' d w → Q w H') → r us H Q
def MtA (K : PySem.W.Frag) (r : V → List V → Hp → VK → Prop) (f : M → List M → HpM → Option (M × HpM)) : Prop := ∀ (α : Pl) (h h' : HpM) (H : Hp) (x : M) (xs : List M) (d : M) (u : V) (us : List V) (Q : VK), Rl K α h H → RepA K α H x u → RepAs K α H xs us → f x xs h = some (d, h') →
  (∀ α' H' w, Ev α α' H H' → Rl K α' h' H' → RepA K α' H' d w → Q w H') → r u us H Q
section
variable {X : Cx} {a b c e : Expr} {es : List Expr} {ma mb mc me : FE} {mas : FA} {ta tb : FT} {pos p : Pos}
theorem me_C {v : V} {d : M} (h : PE X e (tC v)) (r : ∀ α H, RepA X.K α H d v) : PE X e (tM X.K (mC d)) := h.imp <| by
  rintro σ H Q ⟨α, ρ, h, d', h', hσ, hr, e, k⟩
  cases e
  exact k α H v .refl hr (r α H)
theorem me_int {i j pos} : PE X (.Constant (.int i) j pos) (tM X.K (mC (.int i))) := me_C pe_int fun _ _ => rfl
theorem me_bl {b j pos} : PE X (.Constant (.bool b) j pos) (tM X.K (mC (.bl b))) := me_C pe_bl fun _ _ => rfl
theorem me_non {j pos} : PE X (.Constant .none j pos) (tM X.K (mC .non)) := me_C pe_non fun _ _ => rfl
theorem me_str {x j pos} : PE X (.Constant (.str x) j pos) (tM X.K (mC (.str x))) := me_C pe_str fun _ _ => rfl
theorem me_var {i : Nat} (h : PE X e (tVar i)) : PE X e (tM X.K (mVar i)) := h.imp <| by
  rintro σ H Q ⟨α, ρ, h, d', h', hσ, hr, e, k⟩
  unfold mVar at e
  split at e
  · rename_i m em
    cases e
    obtain ⟨v, h1, h2⟩ := hσ.2 i _ em
    exact ⟨v, h1, k α H v .refl hr h2⟩
  · cases e
theorem ma_nil : PA X [] (aM X.K mNil) := pa_nil.imp <| by
  rintro σ H Q ⟨α, ρ, h, d', h', hσ, hr, e, k⟩
  cases e
  exact k α H [] .refl hr rfl
theorem ma_cons (ha : PE X e (tM X.K ma)) (hr : PA X es (aM X.K mas)) (h : notStar e = true) : PA X (e :: es) (aM X.K (mCons ma mas)) := (pa_c ha hr h).imp <| by
  rintro σ H Q ⟨α, ρ, h, d', h', hσ, hr, e, k⟩
  obtain ⟨x, h1, e1, e⟩ := bnd_inv e
  obtain ⟨xs, h2, e2, e⟩ := bnd_inv e
  cases e
  exact ⟨α, ρ, h, x, h1, hσ, hr, e1, fun α1 H1 u ev1 hr1 rx => ⟨α1, ρ, h1, xs, _, hσ.ev ev1, hr1, e2, fun α2 H2 us ev2 hr2 rs => k α2 H2 _ (ev1.trans ev2) hr2 ⟨u, us, rfl, rx.ev ev2, rs⟩⟩⟩
theorem me_tup {x1} (h : PA X es (aM X.K mas)) : PE X (.Tuple es x1 pos) (tM X.K (mTup mas)) := (pe_tup h).imp <| by
  rintro σ H Q ⟨α, ρ, h, d', h', hσ, hr, e, k⟩
  obtain ⟨xs, h1, e1, e⟩ := bnd_inv e
  split at e
  · rename_i hl
    cases e
    refine ⟨α, ρ, h, xs, _, hσ, hr, e1, fun α1 H1 us ev1 hr1 rs => ⟨by rw [← rs.length, sizeLine_eq]; exact hl, fun p hp => ?_⟩⟩
    have s := same_new hp (.tup us)
    exact k α1 _ _ (ev1.trans (.same s)) (hr1.same s) ⟨p, us, rfl, .inl ⟨.inl upd_same, hr1.new hp⟩, rs.ev (.same s)⟩
  · cases e
theorem me_lst (h : PA X es (aM X.K mas)) : PE X (.List es pos) (tM X.K (mLst mas)) := (pe_lst h).imp <| by
  rintro σ H Q ⟨α, ρ, h, d', h', hσ, hr, e, k⟩
  obtain ⟨xs, h1, e1, e⟩ := bnd_inv e
  split at e
  · rename_i hl
    cases e
    refine ⟨α, ρ, h, xs, _, hσ, hr, e1, fun α1 H1 us ev1 hr1 rs => ⟨by rw [← rs.length, sizeLine_eq]; exact hl, fun p hp => ?_⟩⟩
    have s := same_new hp (.lst us)
    exact k α1 _ _ (ev1.trans (.same s)) (hr1.same s) ⟨p, us, rfl, hr1.new hp, upd_same, rs.ev (.same s)⟩
  · cases e
theorem me_lstH (h : PA X es (aM X.K mas)) : PE X (.List es pos) (tM X.K (mLstH mas)) := (pe_lst h).imp <| by
  rintro σ H Q ⟨α, ρ, h, d', h', hσ, hr, e, k⟩
  obtain ⟨xs, h1, e1, e⟩ := bnd_inv e
  split at e
  · rename_i hl
    cases e
    refine ⟨α, ρ, h, xs, h1, hσ, hr, e1, fun α1 H1 us ev1 hr1 rs => ⟨by rw [← rs.length, sizeLine_eq]; exact hl, fun p hp => ?_⟩⟩
    have ea : Ev α1 (α1.add p) H1 (upd H1 p (.lst us)) := .alloc hp
    exact k (α1.add p) _ _ (ev1.trans ea) (hr1.alloc hp ⟨us, upd_same, rs.ev ea⟩) ⟨p, by rw [← hr1.len]; simp [Pl.add], rfl⟩
  · cases e
theorem me_op {op : Operator} {r : R2} {f : M → M → HpM → Option M} (ho : OpR X (binaryOp op) r) (hf : OpM X.K r f) (ha : PE X a (tM X.K ma)) (hb : PE X b (tM X.K mb)) : PE X (.BinOp a op b pos) (tM X.K (mOp f ma mb)) := (pe_op ho ha hb).imp <| by
  rintro σ H Q ⟨α, ρ, h, d, h', hσ, hr, e, k⟩
  obtain ⟨x, h1, e1, e⟩ := bnd_inv e
  obtain ⟨y, h2, e2, e⟩ := bnd_inv e
  obtain ⟨e3, e4⟩ := map_inv e
  dsimp only at e3 e4
  subst e4
  exact ⟨α, ρ, h, x, h1, hσ, hr, e1, fun α1 H1 u ev1 hr1 rx => ⟨α1, ρ, h1, y, _, hσ.ev ev1, hr1, e2, fun α2 H2 v ev2 hr2 ry =>
    hf α2 _ H2 x y d u v Q hr2 (rx.ev ev2) ry e3 fun H3 w s rw => k α2 H3 w ((ev1.trans ev2).trans (.same s)) (hr2.same s) rw⟩⟩
theorem me_un {op : UnaryOp} {r : V → Hp → VK → Prop} {f : M → HpM → Option M} (ho : UnR X (unaryOp op) r) (hf : UnM X.K r f) (ha : PE X a (tM X.K ma)) : PE X (.UnaryOp op a pos) (tM X.K (mUn f ma)) := (pe_un ho ha).imp <| by
  rintro σ H Q ⟨α, ρ, h, d, h', hσ, hr, e, k⟩
  obtain ⟨x, h1, e1, e⟩ := bnd_inv e
  obtain ⟨e3, e4⟩ := map_inv e
  dsimp only at e3 e4
  subst e4
  exact ⟨α, ρ, h, x, _, hσ, hr, e1, fun α1 H1 u ev1 hr1 rx => hf α1 _ H1 x d u Q hr1 rx e3 fun H3 w s rw => k α1 H3 w (ev1.trans (.same s)) (hr1.same s) rw⟩
theorem me_cmp {op : CmpOp} {r : R2} {f : M → M → HpM → Option M} (ho : OpR X (compareOp op) r) (hf : OpM X.K r f) (ha : PE X a (tM X.K ma)) (hb : PE X b (tM X.K mb)) (hm : behindInMarks op b = false) : PE X (.Compare a [op] [b] pos) (tM X.K (mOp f ma mb)) := (pe_cmpR ho ha hb hm).imp <| by
  rintro σ H Q ⟨α, ρ, h, d, h', hσ, hr, e, k⟩
  obtain ⟨x, h1, e1, e⟩ := bnd_inv e
  obtain ⟨y, h2, e2, e⟩ := bnd_inv e
  obtain ⟨e3, e4⟩ := map_inv e
  dsimp only at e3 e4
  subst e4
  exact ⟨α, ρ, h, x, h1, hσ, hr, e1, fun α1 H1 u ev1 hr1 rx => ⟨α1, ρ, h1, y, _, hσ.ev ev1, hr1, e2, fun α2 H2 v ev2 hr2 ry =>
    hf α2 _ H2 x y d u v Q hr2 (rx.ev ev2) ry e3 fun H3 w s rw => k α2 H3 w ((ev1.trans ev2).trans (.same s)) (hr2.same s) rw⟩⟩
theorem mt_cmp {op : CmpOp} {r : R2} {f : M → M → HpM → Option M} (ho : OpR X (compareOp op) r) (hf : OpM X.K r f) (ha : PE X a (tM X.K ma)) (hb : PE X b (tM X.K mb)) (hm : behindInMarks op b = false) : PT X (.Compare a [op] [b] pos) (bM X.K (tV (mOp f ma mb))) := (pt_cmpR ho ha hb hm).imp <| by
  rintro σ H Q ⟨α, ρ, h, d, h', hσ, hr, e, k⟩
  obtain ⟨z, h0, e0, e⟩ := bnd_inv e
  obtain ⟨q, rfl, e⟩ := asB_inv e
  cases e
  obtain ⟨x, h1, e1, e⟩ := bnd_inv e0
  obtain ⟨y, h2, e2, e⟩ := bnd_inv e
  obtain ⟨e3, e4⟩ := map_inv e
  dsimp only at e3 e4
  subst e4
  exact ⟨α, ρ, h, x, h1, hσ, hr, e1, fun α1 H1 u ev1 hr1 rx => ⟨α1, ρ, h1, y, _, hσ.ev ev1, hr1, e2, fun α2 H2 v ev2 hr2 ry =>
    hf α2 _ H2 x y _ u v _ hr2 (rx.ev ev2) ry e3 fun H3 w s rw => ⟨d, rw, k α2 H3 ((ev1.trans ev2).trans (.same s)) (hr2.same s)⟩⟩⟩
theorem me_chain {op op' : CmpOp} {r r' : R2} {f f' : M → M → HpM → Option M} (ho : OpR X (compareOp op) r) (hf : OpM X.K r f) (ho' : OpR X (compareOp op') r') (hf' : OpM X.K r' f') (ha : PE X a (tM X.K ma)) (hb : PE X b (tM X.K mb)) (hc : PE X c (tM X.K mc)) (hm : lastMarks [op, op'] [b, c] = false) :
    PE X (.Compare a [op, op'] [b, c] pos) (tM X.K (mChain f f' ma mb mc)) := (pe_chain ho ho' ha hb hc hm).imp <| by
  rintro σ H Q ⟨α, ρ, h, d, h', hσ, hr, e, k⟩
  obtain ⟨x, h1, e1, e⟩ := bnd_inv e
  obtain ⟨y, h2, e2, e⟩ := bnd_inv e
  obtain ⟨z, e3, e⟩ := Option.bind_eq_some_iff.mp e
  obtain ⟨q, rfl, e⟩ := asB_inv e
  refine ⟨α, ρ, h, x, h1, hσ, hr, e1, fun α1 H1 u ev1 hr1 rx => ⟨α1, ρ, h1, y, h2, hσ.ev ev1, hr1, e2, fun α2 H2 v ev2 hr2 ry =>
    hf α2 _ H2 x y _ u v _ hr2 (rx.ev ev2) ry e3 fun H3 w s rw => ⟨q, rw, ?_⟩⟩⟩
  have hr3 := hr2.same s
  have ev3 := (ev1.trans ev2).trans (Ev.same (α := α2) s)
  cases q with
  | false => cases e; exact k α2 H3 _ ev3 hr3 rfl
  | true =>
    obtain ⟨w', h4, e4, e⟩ := bnd_inv e
    obtain ⟨e5, e6⟩ := map_inv e
    dsimp only at e5 e6
    subst e6
    exact ⟨α2, ρ, h2, w', _, hσ.ev ev3, hr3, e4, fun α4 H4 v4 ev4 hr4 r4 => hf' α4 _ H4 y w' _ v v4 _ hr4 ((ry.ev (.same s)).ev ev4) r4 e5 fun H5 w5 s5 r5 => k α4 H5 w5 ((ev3.trans ev4).trans (.same s5)) (hr4.same s5) r5⟩
theorem mt_val {t : FE} (h : PE X e (tM X.K t)) (he : ∀ whole, isTrue e X.env whole = (do let v ← whole; standAt e.pos; holding [v] (truthy v))) : PT X e (bM X.K (tV t)) := (pt_val h he).imp <| by
  rintro σ H Q ⟨α, ρ, h, d, h', hσ, hr, e, k⟩
  obtain ⟨z, h0, e0, e⟩ := bnd_inv e
  obtain ⟨q, rfl, e⟩ := asB_inv e
  cases e
  exact ⟨α, ρ, h, _, _, hσ, hr, e0, fun α1 H1 u ev1 hr1 rx => ⟨d, rx, k α1 H1 ev1 hr1⟩⟩
theorem mt_chain {op op' : CmpOp} {r r' : R2} {f f' : M → M → HpM → Option M} (ho : OpR X (compareOp op) r) (hf : OpM X.K r f) (ho' : OpR X (compareOp op') r') (hf' : OpM X.K r' f') (ha : PE X a (tM X.K ma)) (hb : PE X b (tM X.K mb)) (hc : PE X c (tM X.K mc)) (hm : lastMarks [op, op'] [b, c] = false) :
    PT X (.Compare a [op, op'] [b, c] pos) (bM X.K (tV (mChain f f' ma mb mc))) := (pt_chain ho ho' ha hb hc hm).imp <| by
  rintro σ H Q ⟨α, ρ, h, d, h', hσ, hr, e, k⟩
  obtain ⟨z, h0, e0, e'⟩ := bnd_inv e
  obtain ⟨q0, rfl, e'⟩ := asB_inv e'
  cases e'
  obtain ⟨x, h1, e1, e⟩ := bnd_inv e0
  obtain ⟨y, h2, e2, e⟩ := bnd_inv e
  obtain ⟨z, e3, e⟩ := Option.bind_eq_some_iff.mp e
  obtain ⟨q, rfl, e⟩ := asB_inv e
  refine ⟨α, ρ, h, x, h1, hσ, hr, e1, fun α1 H1 u ev1 hr1 rx => ⟨α1, ρ, h1, y, h2, hσ.ev ev1, hr1, e2, fun α2 H2 v ev2 hr2 ry =>
    hf α2 _ H2 x y _ u v _ hr2 (rx.ev ev2) ry e3 fun H3 w s rw => ⟨q, rw, ?_⟩⟩⟩
  have hr3 := hr2.same s
  have ev3 := (ev1.trans ev2).trans (Ev.same (α := α2) s)
  cases q with
  | false => cases e; exact ⟨false, rfl, k α2 H3 ev3 hr3⟩
  | true =>
    obtain ⟨w', h4, e4, e⟩ := bnd_inv e
    obtain ⟨e5, e6⟩ := map_inv e
    dsimp only at e5 e6
    subst e6
    exact ⟨α2, ρ, h2, w', _, hσ.ev ev3, hr3, e4, fun α4 H4 v4 ev4 hr4 r4 => hf' α4 _ H4 y w' _ v v4 _ hr4 ((ry.ev (.same s)).ev ev4) r4 e5 fun H5 w5 s5 r5 => ⟨d, r5, k α4 H5 ((ev3.trans ev4).trans (.same s5)) (hr4.same s5)⟩⟩
theorem mw_and1 (ha : PT X a (bM X.K ta)) : PW X (.BoolOp .And [a] pos) (bM X.K ta) := pw_and1 ha
theorem mw_or1 (ha : PT X a (bM X.K ta)) : PW X (.BoolOp .Or [a] pos) (bM X.K ta) := pw_or1 ha
theorem mw_and {rest : List Expr} (ha : PT X a (bM X.K ta)) (hb : PW X (.BoolOp .And (b :: rest) pos) (bM X.K tb)) : PW X (.BoolOp .And (a :: b :: rest) pos) (bM X.K (tAndM ta tb)) := (pw_and ha hb).imp <| by
  rintro σ H Q ⟨α, ρ, h, d, h', hσ, hr, e, k⟩
  obtain ⟨z, h0, e0, e⟩ := bnd_inv e
  refine ⟨α, ρ, h, z, h0, hσ, hr, e0, fun α1 H1 ev1 hr1 => ?_⟩
  cases z with
  | false => cases e; exact k α1 H1 ev1 hr1
  | true => exact ⟨α1, ρ, h0, d, h', hσ.ev ev1, hr1, e, fun α2 H2 ev2 hr2 => k α2 H2 (ev1.trans ev2) hr2⟩
theorem mw_or {rest : List Expr} (ha : PT X a (bM X.K ta)) (hb : PW X (.BoolOp .Or (b :: rest) pos) (bM X.K tb)) : PW X (.BoolOp .Or (a :: b :: rest) pos) (bM X.K (tOrM ta tb)) := (pw_or ha hb).imp <| by
  rintro σ H Q ⟨α, ρ, h, d, h', hσ, hr, e, k⟩
  obtain ⟨z, h0, e0, e⟩ := bnd_inv e
  refine ⟨α, ρ, h, z, h0, hσ, hr, e0, fun α1 H1 ev1 hr1 => ?_⟩
  cases z with
  | true => cases e; exact k α1 H1 ev1 hr1
  | false => exact ⟨α1, ρ, h0, d, h', hσ.ev ev1, hr1, e, fun α2 H2 ev2 hr2 => k α2 H2 (ev1.trans ev2) hr2⟩
theorem mt_not (ha : PT X a (bM X.K ta)) : PT X (.UnaryOp .Not a pos) (bM X.K (tNotM ta)) := (pt_not ha).imp <| by
  rintro σ H Q ⟨α, ρ, h, d, h', hσ, hr, e, k⟩
  obtain ⟨z, h0, e0, e⟩ := bnd_inv e
  cases e
  exact ⟨α, ρ, h, z, _, hσ, hr, e0, fun α1 H1 ev1 hr1 => k α1 H1 ev1 hr1⟩
theorem me_one {op} (h : PE X a (tM X.K ma)) : PE X (.BoolOp op [a] pos) (tM X.K ma) := pe_one h
theorem me_and {rest : List Expr} (ha : PE X a (tM X.K ma)) (hb : PE X (.BoolOp .And (b :: rest) pos) (tM X.K mb)) : PE X (.BoolOp .And (a :: b :: rest) pos) (tM X.K (mAnd ma mb)) := (pe_and ha hb).imp <| by
  rintro σ H Q ⟨α, ρ, h, d, h', hσ, hr, e, k⟩
  obtain ⟨z, h0, e0, e⟩ := bnd_inv e
  obtain ⟨q, rfl, e⟩ := asB_inv e
  refine ⟨α, ρ, h, _, h0, hσ, hr, e0, fun α1 H1 u ev1 hr1 ru => ⟨q, ru, ?_⟩⟩
  cases q with
  | false => cases e; exact k α1 H1 _ ev1 hr1 rfl
  | true => exact ⟨α1, ρ, h0, d, h', hσ.ev ev1, hr1, e, fun α2 H2 w ev2 hr2 rw => k α2 H2 w (ev1.trans ev2) hr2 rw⟩
theorem me_or {rest : List Expr} (ha : PE X a (tM X.K ma)) (hb : PE X (.BoolOp .Or (b :: rest) pos) (tM X.K mb)) : PE X (.BoolOp .Or (a :: b :: rest) pos) (tM X.K (mOr ma mb)) := (pe_or ha hb).imp <| by
  rintro σ H Q ⟨α, ρ, h, d, h', hσ, hr, e, k⟩
  obtain ⟨z, h0, e0, e⟩ := bnd_inv e
  obtain ⟨q, rfl, e⟩ := asB_inv e
  refine ⟨α, ρ, h, _, h0, hσ, hr, e0, fun α1 H1 u ev1 hr1 ru => ⟨q, ru, ?_⟩⟩
  cases q with
  | true => cases e; exact k α1 H1 _ ev1 hr1 rfl
  | false => exact ⟨α1, ρ, h0, d, h', hσ.ev ev1, hr1, e, fun α2 H2 w ev2 hr2 rw => k α2 H2 w (ev1.trans ev2) hr2 rw⟩
theorem me_not (ha : PE X a (tM X.K ma)) : PE X (.UnaryOp .Not a pos) (tM X.K (mNot ma)) := (pe_not ha).imp <| by
  rintro σ H Q ⟨α, ρ, h, d, h', hσ, hr, e, k⟩
  obtain ⟨z, h0, e0, e⟩ := bnd_inv e
  obtain ⟨q, rfl, e⟩ := asB_inv e
  cases e
  exact ⟨α, ρ, h, _, _, hσ, hr, e0, fun α1 H1 u ev1 hr1 ru => ⟨q, ru, k α1 H1 _ ev1 hr1 rfl⟩⟩
section
variable {CX : CXT} {n : Nat} {f : Addr} {fd : FuncData} {ps : List Str} {m : FF} {E : XK} {id T : String} {r : List V → Hp → VK → Prop} {g : List M → HpM → Option M} {x : Str}
theorem me_call (F : FnOk X.prog X.w X.K X.mg X.base CX n f fd ps (spM X.K m)) (hr : Room n X.A) (q : NmOk X.env.scope x .globalImplicit) (hm : X.mg x = some (.ref f)) (hk : PySem.W.keepIn X.K (.ref f) = true) (hb : Binds X.K fd ps []) (hx : Passes CX X E)
    (ha : PA X (e :: es) (aM X.K mas)) (he : notStar e = true) (hpl : (backTo pos (starEach es X.env)).any (·.1) = false) : PE X (.Call (.Name x p) (e :: es) [] pos) (tM X.K (mCall m mas)) :=
  (pe_callk F hr q hm hk hb .nil hx ha he hpl).imp <| by
  rintro σ H Q ⟨α, ρ, h, d, h', hσ, hr, e, k⟩
  obtain ⟨xs, h0, e0, e⟩ := bnd_inv e
  exact ⟨α, ρ, h, xs, h0, hσ, hr, e0, fun α1 H1 us ev1 hr1 rs => ⟨α1, h0, xs, d, h', by rw [List.append_nil]; exact rs, hr1, e, fun α2 H2 w ev2 hr2 rw => k α2 H2 w (ev1.trans ev2) hr2 rw⟩⟩
theorem me_CB (hc : CallR X (.builtin id) r) (hg : CallM X.K r g) (q : NmOk X.env.scope x .globalImplicit) (hm : X.mg x = none) (hv : bootBuiltins x = some (.builtin id)) (ha : PA X (e :: es) (aM X.K mas)) (he : notStar e = true) (hpl : (backTo pos (starEach es X.env)).any (·.1) = false) :
    PE X (.Call (.Name x p) (e :: es) [] pos) (tM X.K (mCB g mas)) := (pe_callBk hc q hm hv ha he hpl).imp <| by
  rintro σ H Q ⟨α, ρ, h, d, h', hσ, hr, e, k⟩
  obtain ⟨xs, h0, e0, e⟩ := bnd_inv e
  obtain ⟨e5, e6⟩ := map_inv e
  dsimp only at e5 e6
  subst e6
  exact ⟨α, ρ, h, xs, _, hσ, hr, e0, fun α1 H1 us ev1 hr1 rs => hg α1 _ H1 xs d us Q hr1 rs e5 fun H2 w s rw => k α1 H2 w (ev1.trans (.same s)) (hr1.same s) rw⟩
theorem me_CTy (hc : CallR X (.type T) r) (hg : CallM X.K r g) (q : NmOk X.env.scope x .globalImplicit) (hm : X.mg x = none) (hv : bootBuiltins x = some (.type T)) (ha : PA X (e :: es) (aM X.K mas)) (he : notStar e = true) (hpl : (backTo pos (starEach es X.env)).any (·.1) = false) :
    PE X (.Call (.Name x p) (e :: es) [] pos) (tM X.K (mCB g mas)) := (pe_callTyk hc q hm hv ha he hpl).imp <| by
  rintro σ H Q ⟨α, ρ, h, d, h', hσ, hr, e, k⟩
  obtain ⟨xs, h0, e0, e⟩ := bnd_inv e
  obtain ⟨e5, e6⟩ := map_inv e
  dsimp only at e5 e6
  subst e6
  exact ⟨α, ρ, h, xs, _, hσ, hr, e0, fun α1 H1 us ev1 hr1 rs => hg α1 _ H1 xs d us Q hr1 rs e5 fun H2 w s rw => k α1 H2 w (ev1.trans (.same s)) (hr1.same s) rw⟩
end
section
variable {o : Expr} {mo : FE} {name : Str} {apos cpos : Pos} {T id : String} {r : V → List V → Hp → VK → Prop} {ok : M → HpM → Bool} {f : M → List M → HpM → Option (M × HpM)}
theorem me_bm (pa : PlainAttrs T) (slot : Slot T name id) (hty : typeOf (.builtin id) = pure (.type "method_descriptor")) (hm : MtR X id r) (hok : ∀ α h H x v, Rl X.K α h H → RepA X.K α H x v → ok x h = true → tyV X.K T v H) (hf : MtA X.K r f)
    (ho : PE X o (tM X.K mo)) (ha : PA X (e :: es) (aM X.K mas)) (hbase : attributeBase o name X.env (eval o X.env) = eval o X.env)
    (hfew : ((backTo cpos (starEach (e :: es) X.env)).all (fun x => !x.1) && (backToKw cpos (keywordEach [] X.env)).all (fun x => x.1.isSome)
      && decide ((e :: es).length + ([] : List Keyword).length + (if ([] : List Keyword).isEmpty then 0 else 1) < 30)) = true)
    (hline : (apos.endLine == cpos.line) = true) (hs : starEach (e :: es) X.env = (false, eval e X.env) :: starEach es X.env) (hplain : (backTo cpos (starEach es X.env)).any (·.1) = false) :
    PE X (.Call (.Attribute o name apos) (e :: es) [] cpos) (tM X.K (mMt ok f mo mas)) := (pe_bm pa slot hty hm ho ha hbase hfew hline hs hplain).imp <| by
  rintro σ H Q ⟨α, ρ, h, d, h', hσ, hr, e, k⟩
  obtain ⟨x, h0, e0, e⟩ := bnd_inv e
  split at e
  · rename_i hk
    obtain ⟨xs, h1, e1, e⟩ := bnd_inv e
    exact ⟨α, ρ, h, x, h0, hσ, hr, e0, fun α1 H1 u ev1 hr1 ru => ⟨hok α1 h0 H1 x u hr1 ru hk, α1, ρ, h0, xs, h1, hσ.ev ev1, hr1, e1, fun α2 H2 us ev2 hr2 rs =>
      hf α2 h1 h' H2 x xs d u us Q hr2 (ru.ev ev2) rs e fun α3 H3 w ev3 hr3 rw => k α3 H3 w ((ev1.trans ev2).trans ev3) hr3 rw⟩⟩
  · cases e
end
theorem me_ix {r : R2} {f : M → M → HpM → Option M} (ho : IxR X r) (hf : OpM X.K r f) (ha : PE X a (tM X.K ma)) (hb : PE X b (tM X.K mb)) (hs : PlainIx b) : PE X (.Subscript a b pos) (tM X.K (mOp f ma mb)) := (pe_ix ho ha hb hs).imp <| by
  rintro σ H Q ⟨α, ρ, h, d, h', hσ, hr, e, k⟩
  obtain ⟨x, h1, e1, e⟩ := bnd_inv e
  obtain ⟨y, h2, e2, e⟩ := bnd_inv e
  obtain ⟨e3, e4⟩ := map_inv e
  dsimp only at e3 e4
  subst e4
  exact ⟨α, ρ, h, x, h1, hσ, hr, e1, fun α1 H1 u ev1 hr1 rx => ⟨α1, ρ, h1, y, _, hσ.ev ev1, hr1, e2, fun α2 H2 v ev2 hr2 ry =>
    hf α2 _ H2 x y d u v Q hr2 (rx.ev ev2) ry e3 fun H3 w s rw => k α2 H3 w ((ev1.trans ev2).trans (.same s)) (hr2.same s) rw⟩⟩
abbrev FO := EnvM → HpM → Option (Option Int × HpM)
noncomputable def oM (K : PySem.W.Frag) (m : FO) : TO := fun σ H Q => ∃ α ρ h d h', REnv K α H ρ σ ∧ Rl K α h H ∧ m ρ h = some (d, h') ∧ ∀ α' H', Ev α α' H H' → Rl K α' h' H' → Q d H'
noncomputable def oNo : FO := fun _ h => some (none, h)
noncomputable def oSome (a : FE) : FO := fun ρ h => bnd (a ρ h) fun x h1 => match x with | .int i => some (some i, h1) | _ => none
theorem PO.imp {e : Option Expr} {t t' : TO} (h : PO X e t) (i : ∀ σ H Q, t' σ H Q → t σ H Q) : PO X e t' := fun pins s σ H Q I q => h pins s σ H Q I (i σ H Q q)
theorem mo_none : PO X none (oM X.K oNo) := po_none.imp <| by
  rintro σ H Q ⟨α, ρ, h, d, h', hσ, hr, e, k⟩
  cases e
  exact k α H .refl hr
theorem mo_some (ha : PE X a (tM X.K ma)) : PO X (some a) (oM X.K (oSome ma)) := (po_some ha).imp <| by
  rintro σ H Q ⟨α, ρ, h, d, h', hσ, hr, e, k⟩
  obtain ⟨x, h1, e1, e⟩ := bnd_inv e
  split at e
  · cases e
    exact ⟨α, ρ, h, _, _, hσ, hr, e1, fun α1 H1 u ev1 hr1 ru => ⟨_, ru, k α1 H1 ev1 hr1⟩⟩
  · cases e
def SlM (K : PySem.W.Frag) (r : V → Option Int → Option Int → Hp → VK → Prop) (f : M → Option Int → Option Int → HpM → Option M) : Prop := ∀ (α : Pl) (h : HpM) (H : Hp) (x d : M) (lo hi : Option Int) (u : V) (Q : VK), Rl K α h H → RepA K α H x u → f x lo hi h = some d → (∀ H' w, Same H H' → RepA K α H' d w → Q w H') → r u lo hi H Q
noncomputable def mSl (f : M → Option Int → Option Int → HpM → Option M) (a : FE) (lo hi : FO) : FE := fun ρ h => bnd (a ρ h) fun x h1 => bnd (lo ρ h1) fun l h2 => bnd (hi ρ h2) fun u h3 => (f x l u h3).map (·, h3)
theorem me_slice {lo hi : Option Expr} {p2 : Pos} {r : V → Option Int → Option Int → Hp → VK → Prop} {f : M → Option Int → Option Int → HpM → Option M} {ml mh : FO} (hr : SlR X r) (hf : SlM X.K r f) (he : PE X a (tM X.K ma)) (hl : PO X lo (oM X.K ml)) (hu : PO X hi (oM X.K mh)) :
    PE X (.Subscript a (.Slice lo hi none p2) pos) (tM X.K (mSl f ma ml mh)) := (pe_slice hr he hl hu).imp <| by
  rintro σ H Q ⟨α, ρ, h, d, h', hσ, hr, e, k⟩
  obtain ⟨x, h1, e1, e⟩ := bnd_inv e
  obtain ⟨l, h2, e2, e⟩ := bnd_inv e
  obtain ⟨u, h3, e3, e⟩ := bnd_inv e
  obtain ⟨e5, e6⟩ := map_inv e
  dsimp only at e5 e6
  subst e6
  exact ⟨α, ρ, h, x, h1, hσ, hr, e1, fun α1 H1 v ev1 hr1 rx => ⟨α1, ρ, h1, l, h2, hσ.ev ev1, hr1, e2, fun α2 H2 ev2 hr2 => ⟨α2, ρ, h2, u, _, hσ.ev (ev1.trans ev2), hr2, e3, fun α3 H3 ev3 hr3 =>
    hf α3 _ H3 x d l u v Q hr3 ((rx.ev ev2).ev ev3) e5 fun H4 w s rw => k α3 H4 w (((ev1.trans ev2).trans ev3).trans (.same s)) (hr3.same s) rw⟩⟩⟩
end
end L2
set_option Elab.async false
set_option linter.all false
set_option maxRecDepth 100000
namespace L2
open PySem PySem.Spec PyProof.Rows
noncomputable def sNext : FS := fun ρ h => some (.nx ρ, h)
noncomputable def sRet (a : FE) : FS := fun ρ h => bnd (a ρ h) fun x h1 => some (.rt x, h1)
noncomputable def sDrop (a : FE) : FS := fun ρ h => bnd (a ρ h) fun _ h1 => some (.nx ρ, h1)
noncomputable def sSeq (a b : FS) : FS := fun ρ h => bnd (a ρ h) fun o h1 => match o with | .nx ρ' => b ρ' h1 | o => some (o, h1)
noncomputable def sIf (c : FT) (a b : FS) : FS := fun ρ h => bnd (c ρ h) fun c h1 => if c = true then a ρ h1 else b ρ h1
noncomputable def gNm (i : Nat) : FG := fun x ρ h => some (ρ.set i (some x), h)
noncomputable def gsNil : FGs := fun xs ρ h => match xs with | [] => some (ρ, h) | _ => none
noncomputable def gsCons (g : FG) (gs : FGs) : FGs := fun xs ρ h => match xs with | x :: r => bnd (g x ρ h) fun ρ' h' => gs r ρ' h' | [] => none
noncomputable def gTp (n : Nat) (gs : FGs) : FG := fun x ρ h => match x with | .tup xs => if xs.length = n then gs xs ρ h else none | _ => none
noncomputable def sAsg (a : FE) (g : FG) : FS := fun ρ h => bnd (a ρ h) fun x h1 => bnd (g x ρ h1) fun ρ' h2 => some (.nx ρ', h2)
abbrev FI := EnvM → HpM → Option ((List M × Option Nat) × HpM)
def okS (xs : List M) (k : Option Nat) (h : HpM) : Prop := match k with | none => True | some k => h[k]? = some (.lst xs)
section
open Classical
noncomputable def mLoop (xs : List M) (k : Option Nat) (b : M → FS) : List M → EnvM → HpM → Option (Out × HpM)
  | [], ρ, h => if okS xs k h then some (.nx ρ, h) else none
  | x :: r, ρ, h => if okS xs k h then bnd (b x ρ h) fun o h1 => match o with
      | .nx ρ' => mLoop xs k b r ρ' h1
      | .ct ρ' => mLoop xs k b r ρ' h1
      | .bk ρ' => some (.nx ρ', h1)
      | .rt d => some (.rt d, h1)
    else none
noncomputable def mComps (xs : List M) (k : Option Nat) (g : FG) (c : FT) (e : FE) (τ : EnvM) : List M → HpM → Option (List M × HpM)
  | [], h => if okS xs k h then some ([], h) else none
  | x :: r, h => if okS xs k h then bnd (g x τ h) fun τ' h1 => bnd (c τ' h1) fun t h2 => if t = true then bnd (e τ' h2) fun y h3 => bnd (mComps xs k g c e τ r h3) fun ys h4 => some (y :: ys, h4) else mComps xs k g c e τ r h2
    else none
end
noncomputable def sFor (i : FI) (g : FG) (b : FS) : FS := fun ρ h => bnd (i ρ h) fun s h1 => mLoop s.1 s.2 (fun x ρ h => bnd (g x ρ h) fun ρ' h' => b ρ' h') s.1 ρ h1
noncomputable def tauM (ix : List (Option Nat)) (ρ : EnvM) : EnvM := ix.map fun o => match o with | none => none | some j => (ρ[j]?).join
noncomputable def mComp (ix : List (Option Nat)) (i : FI) (g : FG) (c : FT) (e : FE) : FE := fun ρ h => bnd (i ρ h) fun s h1 => if s.1.length ≤ 16777216 then bnd (mComps s.1 s.2 g c e (tauM ix ρ) s.1 h1) fun ys h2 => some (.lst ys, h2) else none
def Wk (K : PySem.W.Frag) (α : Pl) (H : Hp) (xs : List M) (k : Option Nat) (J : It) : Prop := ∀ γ : List Addr, (∀ b ∈ γ, H b = none) → ∀ α1 h1 H1, Ev ⟨α.a, γ ++ α.g⟩ α1 H H1 → Rl K α1 h1 H1 → okS xs k h1 → ∀ i : Nat,
  (∀ x, xs[i]? = some x → J.go i H1 ∧ ∀ v H2, J.yld i H1 v H2 → Same H1 H2 ∧ RepA K α1 H2 x v) ∧ (i = xs.length → J.stop i H1)
def iM (K : PySem.W.Frag) (m : FI) : TI := fun σ H R => ∃ α ρ h s h', REnv K α H ρ σ ∧ Rl K α h H ∧ m ρ h = some (s, h') ∧ ∀ α' H' J, Ev α α' H H' → Rl K α' h' H' → Wk K α' H' s.1 s.2 J → R J H'
theorem REnv.set {K : PySem.W.Frag} {α : Pl} {H : Hp} {ρ : EnvM} {σ : St} {i : Nat} {x : M} {v : V} (r : REnv K α H ρ σ) (hx : RepA K α H x v) : REnv K α H (ρ.set i (some x)) (σ.set i (some v)) := by
  refine ⟨by simp [r.1], fun j m hj => ?_⟩
  by_cases e : i = j
  · subst e
    have hl : i < ρ.length := by have := (List.getElem?_eq_some_iff.mp hj).1; simpa using this
    rw [List.getElem?_set_self hl] at hj
    cases hj
    exact ⟨v, by rw [List.getElem?_set_self (by rw [← r.1]; exact hl)], hx⟩
  · rw [List.getElem?_set_ne e] at hj
    obtain ⟨w, h1, h2⟩ := r.2 j m hj
    exact ⟨w, by rw [List.getElem?_set_ne e]; exact h1, h2⟩
theorem REnv.tau {K : PySem.W.Frag} {α : Pl} {H : Hp} {ρ : EnvM} {σ : St} {ix : List (Option Nat)} (r : REnv K α H ρ σ) : REnv K α H (tauM ix ρ) (tau ix σ) := by
  refine ⟨by simp [tauM, L2.tau], fun j m hj => ?_⟩
  unfold tauM at hj
  rw [List.getElem?_map] at hj
  cases e : ix[j]? with
  | none => rw [e] at hj; cases hj
  | some o =>
    rw [e] at hj
    cases o with
    | none => cases hj
    | some q =>
      have hj' : (ρ[q]?).join = some m := Option.some.inj hj
      have hq : ρ[q]? = some (some m) := by
        cases e2 : ρ[q]? with
        | none => rw [e2] at hj'; cases hj'
        | some z => rw [e2] at hj'; exact congrArg some hj'
      obtain ⟨v, h1, h2⟩ := r.2 q m hq
      refine ⟨v, ?_, h2⟩
      unfold L2.tau
      rw [List.getElem?_map, e]
      show some (σ[q]?).join = _
      rw [h1]
      rfl
section
variable {X : Cx} {a b c e o : Expr} {es : List Expr} {ma mb mc me : FE} {mas : FA} {tc : FT} {st : Stmt} {rest : List Stmt} {ms mr : FS} {g : FG} {gs : FGs} {pos p : Pos}
theorem mss_nil : PSs X [] (sM X.K sNext) := pss_nil.imp <| by
  rintro D σ H ⟨α, ρ, h, d, h', hσ, hr, e, k⟩
  cases e
  exact k α H .refl hr σ hσ
theorem mss_one (h : PS X st (sM X.K ms)) : PSs X [st] (sM X.K ms) := pss_one h
theorem mss_cons (h1 : PS X st (sM X.K ms)) (h2 : PSs X rest (sM X.K mr)) : PSs X (st :: rest) (sM X.K (sSeq ms mr)) := (pss_cons h1 h2).imp <| by
  rintro D σ H ⟨α, ρ, h, d, h', hσ, hr, e, k⟩
  obtain ⟨o, h1, e1, e⟩ := bnd_inv e
  refine ⟨α, ρ, h, o, h1, hσ, hr, e1, fun α1 H1 ev1 hr1 => ?_⟩
  cases o with
  | nx ρ' => exact fun σ' hσ' => ⟨α1, ρ', h1, d, h', hσ', hr1, e, fun α2 H2 ev2 hr2 => k α2 H2 (ev1.trans ev2) hr2⟩
  | bk ρ' => cases e; exact k α1 H1 ev1 hr1
  | ct ρ' => cases e; exact k α1 H1 ev1 hr1
  | rt x => cases e; exact k α1 H1 ev1 hr1
theorem ms_ret (he : PE X e (tM X.K me)) : PS X (.Return (some e) pos) (sM X.K (sRet me)) := (ps_ret he).imp <| by
  rintro D σ H ⟨α, ρ, h, d, h', hσ, hr, e, k⟩
  obtain ⟨x, h1, e1, e⟩ := bnd_inv e
  cases e
  exact ⟨α, ρ, h, x, _, hσ, hr, e1, fun α1 H1 v ev1 hr1 rv => k α1 H1 ev1 hr1 v rv⟩
theorem ms_expr (he : PE X e (tM X.K me)) (hs : notComp e = true) : PS X (.Expr e pos) (sM X.K (sDrop me)) := (ps_exprk he hs).imp <| by
  rintro D σ H ⟨α, ρ, h, d, h', hσ, hr, e, k⟩
  obtain ⟨x, h1, e1, e⟩ := bnd_inv e
  cases e
  exact ⟨α, ρ, h, x, _, hσ, hr, e1, fun α1 H1 v ev1 hr1 rv => k α1 H1 ev1 hr1 σ (hσ.ev ev1)⟩
theorem ms_if {s1 s2 : List Stmt} (hc : PT X c (bM X.K tc)) (ha : PSs X s1 (sM X.K ms)) (hb : PSs X s2 (sM X.K mr)) : PS X (.If c s1 s2 pos) (sM X.K (sIf tc ms mr)) := (ps_if hc ha hb).imp <| by
  rintro D σ H ⟨α, ρ, h, d, h', hσ, hr, e, k⟩
  obtain ⟨z, h1, e1, e⟩ := bnd_inv e
  refine ⟨α, ρ, h, z, h1, hσ, hr, e1, fun α1 H1 ev1 hr1 => ?_⟩
  cases z with
  | true => exact ⟨α1, ρ, h1, d, h', hσ.ev ev1, hr1, e, fun α2 H2 ev2 hr2 => k α2 H2 (ev1.trans ev2) hr2⟩
  | false => exact ⟨α1, ρ, h1, d, h', hσ.ev ev1, hr1, e, fun α2 H2 ev2 hr2 => k α2 H2 (ev1.trans ev2) hr2⟩
theorem mg_name {i : Nat} (h : PG X e (gName i)) : PG X e (gM X.K (gNm i)) := h.imp <| by
  rintro v σ H Q ⟨α, ρ, h, x, ρ', h', hσ, hr, rx, e, k⟩
  cases e
  exact k α H _ .refl hr (hσ.set rx)
theorem mgs_nil : PGs X [] (gsM X.K gsNil) := pgs_nil.imp <| by
  rintro v σ H Q ⟨α, ρ, h, x, ρ', h', hσ, hr, rx, e, k⟩
  cases x with
  | nil => cases e; exact ⟨rx, k α H _ .refl hr hσ⟩
  | cons _ _ => cases e
theorem mgs_cons (h1 : PG X e (gM X.K g)) (h2 : PGs X es (gsM X.K gs)) (hs : (assignEach (e :: es) X.env).map (·.2) = assign e X.env :: (assignEach es X.env).map (·.2)) : PGs X (e :: es) (gsM X.K (gsCons g gs)) := (pgs_cons h1 h2 hs).imp <| by
  rintro v σ H Q ⟨α, ρ, h, x, ρ', h', hσ, hr, rx, e, k⟩
  cases x with
  | nil => cases e
  | cons x r =>
    obtain ⟨u, us, rfl, ru, rs⟩ := rx
    obtain ⟨ρ1, h1, e1, e⟩ := bnd_inv e
    exact ⟨u, us, rfl, α, ρ, h, x, ρ1, h1, hσ, hr, ru, e1, fun α1 H1 σ1 ev1 hr1 hσ1 => ⟨α1, ρ1, h1, r, ρ', h', hσ1, hr1, rs.ev ev1, e, fun α2 H2 σ2 ev2 hr2 hσ2 => k α2 H2 σ2 (ev1.trans ev2) hr2 hσ2⟩⟩
theorem mg_tup {k : Nat} {n : Nat} (hc : X.calm = true) (h : PGs X es (gsM X.K gs)) (hn : (assignEach es X.env).length = n) (hst : (assignEach es X.env).findIdx? (·.1) = none) : PG X (.Tuple es k pos) (gM X.K (gTp n gs)) := (pg_tup hc h hn hst).imp <| by
  rintro v σ H Q ⟨α, ρ, h, x, ρ', h', hσ, hr, rx, e, k⟩
  unfold gTp at e
  split at e
  · split at e
    · rename_i xs hl
      obtain ⟨a, vs, rfl, t, rs⟩ := rx
      exact ⟨a, vs, rfl, t.sq, by rw [← rs.length]; exact hl, α, ρ, h, xs, ρ', h', hσ, hr, rs, e, k⟩
    · cases e
  · cases e
theorem ms_asg {tg : Expr} (he : PE X e (tM X.K me)) (hg : PG X tg (gM X.K g)) (hs : swapsWithSole [tg] e pos.line X.env = pure false) (hw : swappedStores [tg] e X.env = pure none) (h1 : (assignEach [tg] X.env).map (·.2) = [assign tg X.env]) :
    PS X (.Assign [tg] e pos) (sM X.K (sAsg me g)) := (ps_asg he hg hs hw h1).imp <| by
  rintro D σ H ⟨α, ρ, h, d, h', hσ, hr, e, k⟩
  obtain ⟨x, h1, e1, e⟩ := bnd_inv e
  obtain ⟨ρ1, h2, e2, e⟩ := bnd_inv e
  cases e
  exact ⟨α, ρ, h, x, h1, hσ, hr, e1, fun α1 H1 v ev1 hr1 rv => ⟨α1, ρ, h1, x, ρ1, _, hσ.ev ev1, hr1, rv, e2, fun α2 H2 σ2 ev2 hr2 hσ2 => k α2 H2 (ev1.trans ev2) hr2 σ2 hσ2⟩⟩
theorem ms_set {i : Nat} {x : Str} {pos' : Pos} (hN : X.N.Nodup) (hi : X.N[i]? = some x) (hx : Loc X.env.scope x) (he : PE X e (tM X.K me)) (hs : notComp e = true) (hf : X.fn x = true) :
    PS X (.Assign [.Name x pos'] e pos) (sM X.K (sAsg me (gNm i))) := (ps_setk hN hi hx he hs hf).imp <| by
  rintro D σ H ⟨α, ρ, h, d, h', hσ, hr, e, k⟩
  obtain ⟨x, h1, e1, e⟩ := bnd_inv e
  cases e
  exact ⟨α, ρ, h, x, _, hσ, hr, e1, fun α1 H1 v ev1 hr1 rv => k α1 H1 ev1 hr1 _ ((hσ.ev ev1).set rv)⟩
theorem ms_for {iter tg : Expr} {body : List Stmt} {mi : FI} (hp : PassesOwn (model X.prog X.w) X.A X.env X.xe) (hc : X.calm = true) (hi : PI X tg iter (iM X.K mi)) (hg : PG X tg (gM X.K g)) (hb : PSs X body (sM X.K ms)) (hs : ∀ x, foldedSetIterable iter X.env x = pure x) :
    PS X (.For tg iter body [] pos) (sM X.K (sFor mi g ms)) := (ps_for hp hc hi hg hb hs).imp <| by
  rintro D σ H ⟨α, ρ, h, d, h', hσ, hr, e, k⟩
  obtain ⟨s, h1, e1, e⟩ := bnd_inv e
  refine ⟨α, ρ, h, s, h1, hσ, hr, e1, fun α1 H1 J ev1 hr1 wk => ?_⟩
  refine ⟨fun i m σ2 H2 => m = s.1.length - i ∧ i ≤ s.1.length ∧ ∃ α2 ρ2 h2, Ev α1 α2 H1 H2 ∧ REnv X.K α2 H2 ρ2 σ2 ∧ Rl X.K α2 h2 H2 ∧ mLoop s.1 s.2 (fun x ρ h => bnd (g x ρ h) fun ρ' h' => ms ρ' h') (s.1.drop i) ρ2 h2 = some (d, h'), ⟨_, rfl, Nat.zero_le _, α1, ρ, h1, .refl, hσ.ev ev1, hr1, e⟩, ?_⟩
  rintro i m σ2 H2 ⟨rfl, hi, α2, ρ2, h2, ev2, hσ2, hr2, e⟩
  by_cases hlt : i < s.1.length
  · right
    rw [List.drop_eq_getElem_cons hlt] at e
    unfold mLoop at e
    split at e
    · rename_i ok
      obtain ⟨go, yl⟩ := (wk [] (by simp) α2 h2 H2 ev2 hr2 ok i).1 s.1[i] (by simp [hlt])
      refine ⟨go, fun σ' H' => ∃ α3 ρ3 h3, Ev α1 α3 H1 H' ∧ REnv X.K α3 H' ρ3 σ' ∧ Rl X.K α3 h3 H' ∧ mLoop s.1 s.2 (fun x ρ h => bnd (g x ρ h) fun ρ' h' => ms ρ' h') (s.1.drop (i + 1)) ρ3 h3 = some (d, h'), fun σ' H' q => ⟨_, by omega, rfl, hlt, q⟩, fun v H3 y => ?_⟩
      obtain ⟨s3, rv⟩ := yl v H3 y
      obtain ⟨o, h4, e4, e⟩ := bnd_inv e
      obtain ⟨ρ5, h5, e5, e4⟩ := bnd_inv e4
      refine ⟨α2, ρ2, h2, _, ρ5, h5, hσ2.ev (.same s3), hr2.same s3, rv, e5, fun α5 H5 σ5 ev5 hr5 hσ5 => ?_⟩
      refine ⟨α5, ρ5, h5, o, h4, hσ5, hr5, e4, fun α6 H6 ev6 hr6 => ?_⟩
      have evA : Ev α1 α6 H1 H6 := ((ev2.trans (.same s3)).trans ev5).trans ev6
      cases o with
      | nx ρ' => exact fun σ' hσ' => ⟨α6, ρ', h4, evA, hσ', hr6, e⟩
      | ct ρ' => exact fun σ' hσ' => ⟨α6, ρ', h4, evA, hσ', hr6, e⟩
      | bk ρ' => cases e; exact fun σ' hσ' => k α6 H6 (ev1.trans evA) hr6 σ' hσ'
      | rt x => cases e; exact fun v rv => k α6 H6 (ev1.trans evA) hr6 v rv
    · cases e
  · left
    have ei : i = s.1.length := by omega
    subst ei
    rw [List.drop_length] at e
    unfold mLoop at e
    split at e
    · rename_i ok
      cases e
      exact ⟨(wk [] (by simp) α2 _ H2 ev2 hr2 ok _).2 rfl, k α2 H2 (ev1.trans ev2) hr2 σ2 hσ2⟩
    · cases e
def CG (K : PySem.W.Frag) (ix : List (Option Nat)) (g0 : TG) (g : FG) : Prop := ∀ (α : Pl) (h : HpM) (H : Hp) (σ σ1 : St) (ρ1 : EnvM) (x : M) (v : V) (ρ' : EnvM) (h' : HpM) (Q : St → Hp → Prop), Kept0 ix σ σ1 → REnv K α H ρ1 σ1 → RepA K α H x v → g x ρ1 h = some (ρ', h') →
  (∀ σ', Kept0 ix σ σ' → REnv K α H ρ' σ' → h' = h → Q σ' H) → g0 v σ1 H Q
theorem cg_name {K : PySem.W.Frag} {ix : List (Option Nat)} {i : Nat} (hi : ix[i]? = some none) : CG K ix (gName i) (gNm i) := by
  intro α h H σ σ1 ρ1 x v ρ' h' Q kp hσ rx e k
  cases e
  refine k _ ⟨by simp [kp.1], fun q w hq => ?_⟩ (hσ.set rx) rfl
  by_cases z : i = q
  · subst z
    unfold L2.tau at hq
    rw [List.getElem?_map, hi] at hq
    cases hq
  · rw [List.getElem?_set_ne z]; exact kp.2 q w hq
theorem PTs.imp {es : List Expr} {t t' : TT} (h : PTs X es t) (i : ∀ σ H Q, t' σ H Q → t σ H Q) : PTs X es t' := fun pins s σ H Q I q => h pins s σ H Q I (i σ H Q q)
noncomputable def tTrueM : FT := fun _ h => some (true, h)
theorem mts_nil : PTs X [] (bM X.K tTrueM) := pts_nil.imp <| by
  rintro σ H Q ⟨α, ρ, h, d, h', hσ, hr, e, k⟩
  cases e
  exact k α H .refl hr
theorem kept_tau {ix : List (Option Nat)} {σ : St} : Kept0 ix σ (tau ix σ) := ⟨by simp [L2.tau], fun _ _ h => h⟩
theorem comp_reads {K : PySem.W.Frag} {ix : List (Option Nat)} {mi : FI} {g0 : TG} {g : FG} {tc : FT} {me : FE} (cg : CG K ix g0 g) {σ : St} {H : Hp} {Q : VK} (q : tM K (mComp ix mi g tc me) σ H Q) : tComp ix (iM K mi) g0 (bM K tc) (tM K me) σ H Q := by
  obtain ⟨α, ρ, h, d, h', hσ, hr, e, k⟩ := q
  obtain ⟨s, h1, e1, e⟩ := bnd_inv e
  split at e
  · rename_i hl
    obtain ⟨ys, h2, e2, e⟩ := bnd_inv e
    cases e
    refine ⟨α, ρ, h, s, h1, hσ, hr, e1, fun α1 H1 J ev1 hr1 wk D hD => ?_⟩
    have hσ1 := (hσ.ev ev1).tau (ix := ix)
    have hDg : D ∉ α1.g := fun hm => by
      obtain ⟨o, e⟩ := hr1.hid D hm
      rw [hD] at e; cases e
    have hγ : ∀ b ∈ [D], H1 b = none := fun b hb => by rw [List.mem_singleton.mp hb]; exact hD
    refine ⟨fun i m acc H2 => m = s.1.length - i ∧ i ≤ s.1.length ∧ acc.length ≤ i ∧ ∃ a2 h2 zs rs, ys = zs ++ rs ∧ Ev (α1.hide D) (Pl.hide ⟨a2, α1.g⟩ D) H1 H2 ∧ Rl K (Pl.hide ⟨a2, α1.g⟩ D) h2 H2 ∧ REnv K (Pl.hide ⟨a2, α1.g⟩ D) H2 (tauM ix ρ) (tau ix σ) ∧ RepAs K (Pl.hide ⟨a2, α1.g⟩ D) H2 zs acc ∧ mComps s.1 s.2 g tc me (tauM ix ρ) (s.1.drop i) h2 = some (rs, h'),
      ⟨_, rfl, Nat.zero_le _, Nat.zero_le _, α1.a, h1, [], ys, rfl, .same (same_new hD _), hr1.lay hD, (hσ1.hide hD).ev (.same (same_new hD _)), rfl, e2⟩, ?_⟩
    rintro i m acc H2 ⟨rfl, hi, hacc, a2, h2, zs, rs, ey, ev2, hr2, hσ2, rz, e⟩ hDa
    have hDm : D ∈ (Pl.hide ⟨a2, α1.g⟩ D).g := List.mem_cons_self
    have hDn : D ∉ a2 := fun hm => hr2.ap D hm hDm
    by_cases hlt : i < s.1.length
    · right
      rw [List.drop_eq_getElem_cons hlt] at e
      unfold mComps at e
      split at e
      · rename_i ok
        obtain ⟨go, yl⟩ := (wk [D] hγ _ h2 H2 ev2 hr2 ok i).1 s.1[i] (by simp [hlt])
        refine ⟨go, by rw [sizeLine_eq]; omega, fun v H3 y => ?_⟩
        obtain ⟨s3, rv⟩ := yl v H3 y
        obtain ⟨τ', h3, e3, e⟩ := bnd_inv e
        obtain ⟨t, h4, e4, e⟩ := bnd_inv e
        refine cg _ h2 H3 σ (tau ix σ) (tauM ix ρ) _ v τ' h3 _ kept_tau (hσ2.ev (.same s3)) rv e3 fun σ' kp hσ' eh => ⟨kp, ?_⟩
        subst eh
        refine ⟨_, τ', _, t, h4, hσ', hr2.same s3, e4, fun α4 H4 ev4 hr4 => ?_⟩
        have hD4 : H4 D = some (.lst acc) := ev4.keep _ _ (s3 _ _ hDa) hDn
        have hg4 : α4.g = D :: α1.g := ev4.pre.1
        have ea4 : α4 = Pl.hide ⟨α4.a, α1.g⟩ D := by cases α4; cases hg4; rfl
        have evA : Ev (α1.hide D) α4 H1 H4 := (ev2.trans (.same s3)).trans ev4
        cases t with
        | false =>
          refine ⟨hD4, _, ?_, rfl, hlt, by omega, α4.a, h4, zs, rs, ey, ?_, ?_, ?_, ?_, e⟩
          · omega
          · rw [← ea4]; exact evA
          · rw [← ea4]; exact hr4
          · rw [← ea4]; exact (hσ2.ev (.same s3)).ev ev4
          · rw [← ea4]; exact (rz.ev (.same s3)).ev ev4
        | true =>
          obtain ⟨y, h5, e5, e⟩ := bnd_inv e
          obtain ⟨rs', h6, e6, e⟩ := bnd_inv e
          cases e
          refine ⟨α4, τ', h4, y, h5, hσ'.ev ev4, hr4, e5, fun α5 H5 w ev5 hr5 rw' => ?_⟩
          have hD4n : D ∉ α4.a := fun hm => hr4.ap D hm (by rw [hg4]; exact List.mem_cons_self)
          have hD5 : H5 D = some (.lst acc) := ev5.keep _ _ hD4 hD4n
          have hg5 : α5.g = D :: α1.g := ev5.pre.1.trans hg4
          have hD5m : D ∈ α5.g := by rw [hg5]; exact List.mem_cons_self
          have ea5 : α5 = Pl.hide ⟨α5.a, α1.g⟩ D := by cases α5; cases hg5; rfl
          refine ⟨hD5, _, ?_, rfl, hlt, by simp; omega, α5.a, h5, zs ++ [y], rs', by rw [ey]; simp, ?_, ?_, ?_, ?_, e6⟩
          · omega
          · rw [← ea5]; exact (evA.trans ev5).hw hD
          · rw [← ea5]; exact hr5.hw hD5m
          · rw [← ea5]; exact (((hσ2.ev (.same s3)).ev ev4).ev ev5).hw hD5m
          · rw [← ea5]; exact ((((rz.ev (.same s3)).ev ev4).ev ev5).snoc rw').hw hD5m
      · cases e
    · left
      have ei : i = s.1.length := by omega
      subst ei
      rw [List.drop_length] at e
      unfold mComps at e
      split at e
      · rename_i ok
        cases e
        refine ⟨(wk [D] hγ _ _ H2 ev2 hr2 ok _).2 rfl, k ⟨a2, α1.g⟩ H2 _ (ev1.trans ev2.unhide) hr2.show ⟨D, acc, rfl, ⟨hDn, hDg⟩, hDa, ?_⟩⟩
        rw [ey, List.append_nil]; exact rz.show
      · cases e
  · cases e
theorem me_comp {elt tg iter : Expr} {ifs : List Expr} {scope : Scope} {N' : List Str} {ix : List (Option Nat)} {mi : FI} {g0 : TG}
    (S : CompScope X N' ix scope) (hcalm : X.calm = true) (cg : CG X.K ix g0 g) (hi : PI X tg iter (iM X.K mi))
    (hg : ∀ C s₀ H₀ fp, PG (X.comp scope (clOf X.env.cells scope.names []) C s₀ H₀ fp N') tg g0)
    (ht : ∀ C s₀ H₀ fp, PTs (X.comp scope (clOf X.env.cells scope.names []) C s₀ H₀ fp N') ifs (bM (X.comp scope (clOf X.env.cells scope.names []) C s₀ H₀ fp N').K tc))
    (he : ∀ C s₀ H₀ fp, PE (X.comp scope (clOf X.env.cells scope.names []) C s₀ H₀ fp N') elt (tM (X.comp scope (clOf X.env.cells scope.names []) C s₀ H₀ fp N').K me))
    (hs : ∀ x, foldedSetIterable iter X.env x = pure x) : PE X (.ListComp elt [⟨tg, iter, ifs, 0⟩] scope pos) (tM X.K (mComp ix mi g tc me)) :=
  (pe_comp S hcalm hi hg ht he hs).imp fun σ H Q q => comp_reads cg q
end
end L2
set_option Elab.async false
set_option linter.all false
set_option maxRecDepth 100000
namespace L2
open PySem PySem.Spec PyProof.Rows
section
variable {X : Cx} {a b c e o : Expr} {es : List Expr} {ma mb mc me : FE} {mas : FA} {tc : FT} {st : Stmt} {rest : List Stmt} {ms mr : FS} {g : FG} {gs : FGs} {pos p : Pos}
theorem ms_setC {elt tg iter : Expr} {ifs : List Expr} {scope : Scope} {pos' spos : Pos} {N' : List Str} {ix : List (Option Nat)} {mi : FI} {g0 : TG} {k : Nat} {x : Str}
    (hN : X.N.Nodup) (hk : X.N[k]? = some x) (hx : X.env.scope.names.lookup x = some .local)
    (S : CompScope X N' ix scope) (hcalm : X.calm = true) (cg : CG X.K ix g0 g) (hi : PI X tg iter (iM X.K mi))
    (hg : ∀ C s₀ H₀ fp, PG (X.comp scope (clOf X.env.cells scope.names []) C s₀ H₀ fp N') tg g0)
    (ht : ∀ C s₀ H₀ fp, PTs (X.comp scope (clOf X.env.cells scope.names []) C s₀ H₀ fp N') ifs (bM (X.comp scope (clOf X.env.cells scope.names []) C s₀ H₀ fp N').K tc))
    (he : ∀ C s₀ H₀ fp, PE (X.comp scope (clOf X.env.cells scope.names []) C s₀ H₀ fp N') elt (tM (X.comp scope (clOf X.env.cells scope.names []) C s₀ H₀ fp N').K me))
    (hsw : swapsWith (.ListComp elt [⟨tg, iter, ifs, 0⟩] scope pos) (some (.Name x pos')) spos.line X.env = pure true)
    (hs : ∀ x, foldedSetIterable iter X.env x = pure x) :
    PS X (.Assign [.Name x pos'] (.ListComp elt [⟨tg, iter, ifs, 0⟩] scope pos) spos) (sM X.K (sAsg (mComp ix mi g tc me) (gNm k))) :=
  (ps_setC hN hk hx S hcalm hi hg ht he hsw hs).imp <| by
    rintro D σ H ⟨α, ρ, h, d, h', hσ, hr, e, kk⟩
    obtain ⟨x, h1, e1, e⟩ := bnd_inv e
    cases e
    exact comp_reads cg ⟨α, ρ, h, x, _, hσ, hr, e1, fun α1 H1 v ev1 hr1 rv => kk α1 H1 ev1 hr1 _ ((hσ.ev ev1).set rv)⟩
theorem PI.imp {tg iter : Expr} {t t' : TI} (h : PI X tg iter t) (i : ∀ σ H R, t' σ H R → t σ H R) : PI X tg iter t' := fun pins s σ H R I q => h pins s σ H R I (i σ H R q)
noncomputable def iL (a : FE) : FI := fun ρ h => bnd (a ρ h) fun x h1 => match x with
  | .lst xs => some ((xs, none), h1)
  | .scr ns => some ((ns.map M.int, none), h1)
  | .ref k => (match h1[k]? with | some (.lst xs) => some ((xs, some k), h1) | _ => none)
  | _ => none
noncomputable def iT (a : FE) : FI := fun ρ h => bnd (a ρ h) fun x h1 => match x with | .tup xs => some ((xs, none), h1) | _ => none
noncomputable def iS (a : FE) : FI := fun ρ h => bnd (a ρ h) fun x h1 => match x with | .str z => some ((z.cps.toList.map fun c => M.str ⟨#[c]⟩, none), h1) | _ => none
noncomputable def iR1 (a : FA) : FI := fun ρ h => bnd (a ρ h) fun xs h1 => match xs with | [.int j] => if -4611686018427387904 ≤ j ∧ j < 4611686018427387904 then some (((List.range j.toNat).map fun (i : Nat) => M.int (i : Int), none), h1) else none | _ => none
theorem RepAs.ints {K : PySem.W.Frag} {α : Pl} {H : Hp} : ∀ {ns : List Int}, RepAs K α H (ns.map M.int) (ns.map V.int)
  | [] => rfl
  | n :: ns => ⟨_, _, rfl, rfl, RepAs.ints⟩
theorem RepA.hides {K : PySem.W.Frag} {α : Pl} {H : Hp} {m : M} {v : V} (r : RepA K α H m v) : ∀ {γ : List Addr}, (∀ b ∈ γ, H b = none) → RepA K ⟨α.a, γ ++ α.g⟩ H m v
  | [], _ => r
  | p :: γ, h => RepA.hide (α := ⟨α.a, γ ++ α.g⟩) (h p List.mem_cons_self) (RepA.hides r fun b hb => h b (List.mem_cons_of_mem _ hb))
theorem wk_list {K : PySem.W.Frag} {α : Pl} {H : Hp} {a : Addr} {xs : List M} {k : Option Nat} (hs : ∀ γ, (∀ b ∈ γ, H b = none) → ∀ α1 h1 H1, Ev ⟨α.a, γ ++ α.g⟩ α1 H H1 → Rl K α1 h1 H1 → okS xs k h1 → ∃ vs, SqL K H1 a vs ∧ RepAs K α1 H1 xs vs) : Wk K α H xs k (Itl K a) := by
  intro γ hγ α1 h1 H1 ev hr ok i
  obtain ⟨vs, sq, rs⟩ := hs γ hγ α1 h1 H1 ev hr ok
  refine ⟨fun x hx => ?_, fun hl => ⟨vs, sq, by rw [← rs.length]; omega⟩⟩
  obtain ⟨v, hv, rv⟩ := rs.get hx
  refine ⟨⟨vs, v, sq, hv⟩, fun w H2 y => ?_⟩
  obtain ⟨e1, e2⟩ := y
  subst e1
  have := e2 vs sq
  rw [hv] at this
  cases this
  exact ⟨Same.refl _, rv⟩
theorem wk_tup {K : PySem.W.Frag} {α : Pl} {H : Hp} {a : Addr} {xs : List M} {k : Option Nat} (hs : ∀ γ, (∀ b ∈ γ, H b = none) → ∀ α1 h1 H1, Ev ⟨α.a, γ ++ α.g⟩ α1 H H1 → Rl K α1 h1 H1 → okS xs k h1 → ∃ vs, SqT K H1 a vs ∧ RepAs K α1 H1 xs vs) : Wk K α H xs k (Itt K a) := by
  intro γ hγ α1 h1 H1 ev hr ok i
  obtain ⟨vs, sq, rs⟩ := hs γ hγ α1 h1 H1 ev hr ok
  refine ⟨fun x hx => ?_, fun hl => ⟨vs, sq, by rw [← rs.length]; omega⟩⟩
  obtain ⟨v, hv, rv⟩ := rs.get hx
  refine ⟨⟨vs, v, sq, hv⟩, fun w H2 y => ?_⟩
  obtain ⟨e1, e2⟩ := y
  subst e1
  have := e2 vs sq
  rw [hv] at this
  cases this
  exact ⟨Same.refl _, rv⟩
theorem mi_list {l tg : Expr} {ml : FE} (hl : PE X l (tM X.K ml)) : PI X tg l (iM X.K (iL ml)) := (pi_list hl).imp <| by
  rintro σ H R ⟨α, ρ, h, s, h', hσ, hr, e, k⟩
  obtain ⟨x, h1, e1, e⟩ := bnd_inv e
  split at e
  · cases e
    refine ⟨α, ρ, h, _, _, hσ, hr, e1, fun α1 H1 v ev1 hr1 rv => ?_⟩
    obtain ⟨a, vs, rfl, n, ha, rs⟩ := id rv
    refine ⟨a, rfl, ⟨vs, .of ha⟩, k α1 H1 _ ev1 hr1 (wk_list fun γ hγ α2 h2 H2 ev2 hr2 _ => ?_)⟩
    obtain ⟨a', vs', ea, n', ha', rs'⟩ := (rv.hides hγ).ev ev2
    cases ea
    exact ⟨vs', .of ha', rs'⟩
  · cases e
    refine ⟨α, ρ, h, _, _, hσ, hr, e1, fun α1 H1 v ev1 hr1 rv => ?_⟩
    obtain ⟨a, rfl, ha⟩ := id rv
    refine ⟨a, rfl, ⟨_, ha.sq⟩, k α1 H1 _ ev1 hr1 (wk_list fun γ hγ α2 h2 H2 ev2 hr2 _ => ?_)⟩
    obtain ⟨a', ea, ha'⟩ := (rv.hides hγ).ev ev2
    cases ea
    exact ⟨_, ha'.sq, RepAs.ints⟩
  · split at e
    · rename_i k0 xs hk
      cases e
      refine ⟨α, ρ, h, _, _, hσ, hr, e1, fun α1 H1 v ev1 hr1 rv => ?_⟩
      obtain ⟨a, ha, rfl⟩ := id rv
      obtain ⟨vs, hv, rs⟩ := hr1.obj _ a _ ha hk
      refine ⟨a, rfl, ⟨_, .of hv⟩, k α1 H1 _ ev1 hr1 (wk_list fun γ hγ α2 h2 H2 ev2 hr2 ok => ?_)⟩
      obtain ⟨vs', hv', rs'⟩ := hr2.obj _ a _ (ev2.ix ha) ok
      exact ⟨_, .of hv', rs'⟩
    · cases e
  · cases e
theorem mi_tup {l tg : Expr} {ml : FE} (hl : PE X l (tM X.K ml)) : PI X tg l (iM X.K (iT ml)) := (pi_tup hl).imp <| by
  rintro σ H R ⟨α, ρ, h, s, h', hσ, hr, e, k⟩
  obtain ⟨x, h1, e1, e⟩ := bnd_inv e
  split at e
  · cases e
    refine ⟨α, ρ, h, _, _, hσ, hr, e1, fun α1 H1 v ev1 hr1 rv => ?_⟩
    obtain ⟨a, vs, rfl, ha, rs⟩ := id rv
    refine ⟨a, rfl, ⟨vs, ha.sq⟩, k α1 H1 _ ev1 hr1 (wk_tup fun γ hγ α2 h2 H2 ev2 hr2 _ => ?_)⟩
    obtain ⟨a', vs', ea, ha', rs'⟩ := (rv.hides hγ).ev ev2
    cases ea
    exact ⟨vs', ha'.sq, rs'⟩
  · cases e
theorem mi_str {l tg : Expr} {ml : FE} (hl : PE X l (tM X.K ml)) : PI X tg l (iM X.K (iS ml)) := (pi_str hl).imp <| by
  rintro σ H R ⟨α, ρ, h, s, h', hσ, hr, e, k⟩
  obtain ⟨x, h1, e1, e⟩ := bnd_inv e
  split at e
  · rename_i z
    cases e
    refine ⟨α, ρ, h, _, _, hσ, hr, e1, fun α1 H1 v ev1 hr1 rv => ⟨z, rv, k α1 H1 _ ev1 hr1 fun γ hγ α2 h2 H2 ev2 hr2 _ i => ⟨fun x hx => ?_, fun hl => show z.cps.size ≤ i by simp at hl; omega⟩⟩⟩
    rw [List.getElem?_map] at hx
    cases q : z.cps.toList[i]? with
    | none => rw [q] at hx; cases hx
    | some c =>
      rw [q] at hx
      cases hx
      have hi : i < z.cps.size := by simpa using (List.getElem?_eq_some_iff.mp q).1
      refine ⟨hi, fun w H3 y => ?_⟩
      obtain ⟨e1, c', ec, ew⟩ := y
      subst e1 ew
      have : z.cps[i]? = some c := by simpa using q
      rw [this] at ec
      cases ec
      exact ⟨Same.refl _, rfl⟩
  · cases e
theorem wk_range {K : PySem.W.Frag} {α : Pl} {H : Hp} {lo : Int} {n : Nat} : Wk K α H ((List.range n).map fun (q : Nat) => M.int (lo + q)) none (Itr lo n) := by
  intro γ hγ α2 h2 H2 ev2 hr2 _ i
  refine ⟨fun x hx => ?_, fun hl => show n ≤ i by simp at hl; omega⟩
  have hi : i < n := by simpa using (List.getElem?_eq_some_iff.mp hx).1
  rw [List.getElem?_map, List.getElem?_range hi] at hx
  cases hx
  refine ⟨hi, fun w H3 y => ?_⟩
  obtain ⟨e1, ew⟩ := y
  subst e1 ew
  exact ⟨Same.refl _, rfl⟩
theorem mi_range1 {a tg : Expr} (hg : Gl X "range") (hm : X.mg "range" = none) (ha : PA X [a] (aM X.K mas)) (hs : starEach [a] X.env = [(false, eval a X.env)]) : PI X tg (.Call (.Name "range" p) [a] [] pos) (iM X.K (iR1 mas)) := (pi_range1 hg hm ha hs).imp <| by
  rintro σ H R ⟨α, ρ, h, s, h', hσ, hr, e, k⟩
  obtain ⟨xs, h1, e1, e⟩ := bnd_inv e
  split at e
  · rename_i j
    split at e
    · rename_i hj
      cases e
      refine ⟨α, ρ, h, _, _, hσ, hr, e1, fun α1 H1 vs ev1 hr1 rv => ?_⟩
      obtain ⟨v, r, rfl, rv, rr⟩ := rv
      cases (show r = [] from rr)
      cases (show v = .int j from rv)
      refine ⟨j, rfl, by omega, by omega, k α1 H1 _ ev1 hr1 ?_⟩
      have := wk_range (K := X.K) (α := α1) (H := H1) (lo := 0) (n := j.toNat)
      simp only [Int.zero_add] at this
      exact this
    · cases e
  · cases e
noncomputable def mFun (n k : Nat) (b : FS) : FF := fun ds h => if ds.length = n then bnd (b (ds.map some ++ List.replicate k none) h) fun o h1 => match o with
  | .rt d => some (d, h1)
  | .nx _ => some (.non, h1)
  | _ => none else none
theorem REnv.start {K : PySem.W.Frag} {α : Pl} {H : Hp} : ∀ {ds : List M} {vs : List V} {k : Nat}, RepAs K α H ds vs → REnv K α H (ds.map some ++ List.replicate k none) (vs.map some ++ List.replicate k none)
  | [], vs, k, h => by
    cases (show vs = [] from h)
    refine ⟨by simp, fun i m hi => ?_⟩
    simp [List.getElem?_replicate] at hi
  | d :: ds, vs, k, ⟨v, r, e, h1, h2⟩ => by
    subst e
    obtain ⟨q1, q2⟩ := REnv.start (k := k) h2
    refine ⟨by simpa using q1, fun i m hi => ?_⟩
    cases i with
    | zero => simp at hi; subst hi; exact ⟨v, by simp, h1⟩
    | succ i => simpa using q2 i m (by simpa using hi)
end
section
variable {P : Program} {w : World} {K : PySem.W.Frag} {mg : Str → Option Value} {base : Heap}
theorem Fun.okM {x qual : Str} {st : Stmt} {f : Addr} {fd : FuncData} {N ps : List Str} {k n : Nat} {b : FS} (F : Fun K x qual st f fd) (S : FnScope N ps (defScope st)) (hn : N.length = ps.length + n)
    (hb : ∀ (cdv : Value) (A : Around) (outer : List Env) (s : Shared) (H : Hp) (E : XK), Room k (A.deeper (envOfC qual (defScope st) s.heap.objs.size f cdv)) →
      PSs (cxOf CX0 P w K mg base N qual (defScope st) f cdv A outer s H E).nox (defBody st) (sM (cxOf CX0 P w K mg base N qual (defScope st) f cdv A outer s H E).nox.K b)) : FnOk P w K mg base CX0 (k + 1) f fd ps (spM K (mFun ps.length n b)) := by
  refine F.ok S (fun vs H Q E q => ?_) (fun cdv A outer s H vs Q E hr q => ⟨sM K b, hb cdv A outer s H E hr, ?_⟩)
  · obtain ⟨α, h, ds, d, h', rs, hr, e, _⟩ := q
    unfold mFun at e
    split at e
    · rename_i hl
      rw [← rs.length]; exact hl
    · cases e
  · obtain ⟨α, h, ds, d, h', rs, hr, e, k⟩ := q
    unfold mFun at e
    split at e
    · rename_i hl
      obtain ⟨o, h1, e1, e⟩ := bnd_inv e
      have ek : N.length - vs.length = n := by rw [← rs.length, hl, hn]; omega
      refine ⟨α, ds.map some ++ List.replicate n none, h, o, h1, ?_, hr, e1, fun α' H' ev hr' => ?_⟩
      · unfold start
        rw [ek]
        exact REnv.start rs
      · cases o with
        | nx ρ => cases e; exact fun σ _ => k α' H' .non ev hr' rfl
        | rt d => cases e; exact fun v rv => k α' H' v ev hr' rv
        | bk ρ => cases e
        | ct ρ => cases e
    · cases e
end
section
open Classical
mutual
/-- a thing with each place looked up by f -/
noncomputable def resB (f : Nat → Option M) : M → Option M
  | .ref k => f k
  | .tup xs => (resBs f xs).map .tup
  | .lst xs => (resBs f xs).map .lst
  | .dct ks xs => (resBs f xs).map (.dct ks)
  | m => some m
noncomputable def resBs (f : Nat → Option M) : List M → Option (List M)
  | [] => some []
  | x :: xs => (resB f x).bind fun y => (resBs f xs).map (y :: ·)
end
noncomputable def lookR (n : Nat) (h : HpM) : Nat → Nat → Option M
  | 0, k => if k < n then some (.ref k) else none
  | q + 1, k => if k < n then some (.ref k) else match h[k]? with
    | some (.lst xs) => (resBs (lookR n h q) xs).map .lst
    | some (.dct kvs) => (resBs (lookR n h q) (kvs.map (·.2))).map (.dct (kvs.map (·.1)))
    | none => none
noncomputable def resO (f : Nat → Option M) : MO → Option MO
  | .lst xs => (resBs f xs).map .lst
  | .dct kvs => (resBs f (kvs.map (·.2))).map fun ys => .dct ((kvs.map (·.1)).zip ys)
noncomputable def resOs (f : Nat → Option M) : List MO → Option (List MO)
  | [] => some []
  | o :: os => (resO f o).bind fun p => (resOs f os).map (p :: ·)
noncomputable def shut (n : Nat) (d : M) (h : HpM) : Option (M × HpM) := if h.length = n then some (d, h) else (resB (lookR n h 20) d).bind fun d' => (resOs (lookR n h 20) (h.take n)).map fun h' => (d', h')
noncomputable def mSeal (f : FF) : FF := fun ds h => bnd (f ds h) fun d h1 => shut h.length d h1
end
mutual
theorem resB_rep {K : PySem.W.Frag} {α α' : Pl} {H : Hp} {f : Nat → Option M} (hn : ∀ b, α.no b → α'.no b) (hf : ∀ k m v, f k = some m → RepA K α H (.ref k) v → RepA K α' H m v) : ∀ {m m' : M} {v : V}, resB f m = some m' → RepA K α H m v → RepA K α' H m' v
  | .non, _, _, e, h => by cases e; exact h
  | .bl _, _, _, e, h => by cases e; exact h
  | .int _, _, _, e, h => by cases e; exact h
  | .str _, _, _, e, h => by cases e; exact h
  | .ty _, _, _, e, h => by cases e; exact h
  | .scr _, _, _, e, h => by
    cases e
    obtain ⟨a, e1, t⟩ := h
    exact ⟨a, e1, t.elim ((by rintro ⟨q, n⟩; exact .inl ⟨q, hn _ n⟩)) .inr⟩
  | .tup xs, _, _, e, h => by
    obtain ⟨ys, e1, e2⟩ := Option.map_eq_some_iff.mp e
    subst e2
    obtain ⟨a, vs, e3, t, r⟩ := h
    exact ⟨a, vs, e3, t.elim ((by rintro ⟨q, n⟩; exact .inl ⟨q, hn _ n⟩)) .inr, resBs_rep hn hf e1 r⟩
  | .lst xs, _, _, e, h => by
    obtain ⟨ys, e1, e2⟩ := Option.map_eq_some_iff.mp e
    subst e2
    obtain ⟨a, vs, e3, n, t, r⟩ := h
    exact ⟨a, vs, e3, hn _ n, t, resBs_rep hn hf e1 r⟩
  | .dct ks xs, _, _, e, h => by
    obtain ⟨ys, e1, e2⟩ := Option.map_eq_some_iff.mp e
    subst e2
    obtain ⟨a, vs, e3, n, t, ek, r⟩ := h
    exact ⟨a, vs, e3, hn _ n, t, ek, resBs_rep hn hf e1 r⟩
  | .ref k, _, _, e, h => hf k _ _ e h
theorem resBs_rep {K : PySem.W.Frag} {α α' : Pl} {H : Hp} {f : Nat → Option M} (hn : ∀ b, α.no b → α'.no b) (hf : ∀ k m v, f k = some m → RepA K α H (.ref k) v → RepA K α' H m v) : ∀ {m m' : List M} {v : List V}, resBs f m = some m' → RepAs K α H m v → RepAs K α' H m' v
  | [], _, _, e, h => by cases e; exact h
  | x :: xs, _, _, e, h => by
    obtain ⟨y, e1, e2⟩ := Option.bind_eq_some_iff.mp e
    obtain ⟨ys, e3, e4⟩ := Option.map_eq_some_iff.mp e2
    subst e4
    obtain ⟨v, r, rfl, h1, h2⟩ := h
    exact ⟨v, r, rfl, resB_rep hn hf e1 h1, resBs_rep hn hf e3 h2⟩
end
theorem lookR_rep {K : PySem.W.Frag} {α : Pl} {h : HpM} {H : Hp} {n : Nat} (hr : Rl K α h H) : ∀ (q k : Nat) (m : M) (v : V), lookR n h q k = some m → RepA K α H (.ref k) v → RepA K ⟨α.a.take n, α.g⟩ H m v
  | q, k, m, v, e, ⟨a, ha, e2⟩ => by
    have hn : ∀ b, α.no b → Pl.no ⟨α.a.take n, α.g⟩ b := fun b z => ⟨fun hm => z.1 (List.mem_of_mem_take hm), z.2⟩
    by_cases hk : k < n
    · have em : m = .ref k := by
        cases q <;> (unfold lookR at e; rw [if_pos hk] at e; exact (Option.some.inj e).symm)
      subst em
      exact ⟨a, by show (α.a.take n)[k]? = some a; rw [List.getElem?_take_of_lt hk]; exact ha, e2⟩
    · cases q with
      | zero => unfold lookR at e; rw [if_neg hk] at e; cases e
      | succ q =>
        have hna : Pl.no ⟨α.a.take n, α.g⟩ a := ⟨fun hm => by
          obtain ⟨j, hj⟩ := List.getElem?_of_mem hm
          have hjl : j < (α.a.take n).length := (List.getElem?_eq_some_iff.mp hj).1
          have hjn : j < n := by rw [List.length_take] at hjl; omega
          have hj' : α.a[j]? = some a := by rw [List.getElem?_take_of_lt hjn] at hj; exact hj
          have e1 := List.getElem?_eq_some_iff.mp hj'
          have e2 := List.getElem?_eq_some_iff.mp ha
          have := (List.getElem_inj hr.nd).mp (e1.2.trans e2.2.symm)
          omega, hr.ap a (List.mem_of_getElem? ha)⟩
        unfold lookR at e
        rw [if_neg hk] at e
        split at e
        · rename_i xs hx
          obtain ⟨ys, e3, e4⟩ := Option.map_eq_some_iff.mp e
          subst e4
          obtain ⟨vs, hv, rs⟩ := hr.obj k a _ ha hx
          exact ⟨a, vs, e2, hna, hv, resBs_rep hn (fun k m v => lookR_rep hr q k m v) e3 rs⟩
        · rename_i kvs hx
          obtain ⟨ys, e3, e4⟩ := Option.map_eq_some_iff.mp e
          subst e4
          obtain ⟨ws, hv, ek, rs⟩ := hr.obj k a _ ha hx
          exact ⟨a, ws, e2, hna, hv, ek, resBs_rep hn (fun k m v => lookR_rep hr q k m v) e3 rs⟩
        · cases e
theorem resBs_len {f : Nat → Option M} : ∀ {m m' : List M}, resBs f m = some m' → m'.length = m.length
  | [], _, e => by cases e; rfl
  | x :: xs, _, e => by
    obtain ⟨y, e1, e2⟩ := Option.bind_eq_some_iff.mp e
    obtain ⟨ys, e3, e4⟩ := Option.map_eq_some_iff.mp e2
    subst e4
    simp [resBs_len e3]
theorem resOs_get {f : Nat → Option M} : ∀ {os os' : List MO} {k : Nat} {o' : MO}, resOs f os = some os' → os'[k]? = some o' → ∃ o, os[k]? = some o ∧ resO f o = some o'
  | [], _, _, _, e, h => by cases e; simp at h
  | o :: os, _, k, o', e, h => by
    obtain ⟨y, e1, e2⟩ := Option.bind_eq_some_iff.mp e
    obtain ⟨ys, e3, e4⟩ := Option.map_eq_some_iff.mp e2
    subst e4
    cases k with
    | zero => simp at h; subst h; exact ⟨o, rfl, e1⟩
    | succ k => simpa using resOs_get (k := k) e3 (by simpa using h)
theorem resOs_len {f : Nat → Option M} : ∀ {os os' : List MO}, resOs f os = some os' → os'.length = os.length
  | [], _, e => by cases e; rfl
  | o :: os, _, e => by
    obtain ⟨y, e1, e2⟩ := Option.bind_eq_some_iff.mp e
    obtain ⟨ys, e3, e4⟩ := Option.map_eq_some_iff.mp e2
    subst e4
    simp [resOs_len e3]
theorem shut_ok {K : PySem.W.Frag} {α : Pl} {h h' : HpM} {H : Hp} {n : Nat} {d d' : M} {v : V} (hr : Rl K α h H) (hn : n ≤ h.length) (e : shut n d h = some (d', h')) (rv : RepA K α H d v) : Rl K ⟨α.a.take n, α.g⟩ h' H ∧ RepA K ⟨α.a.take n, α.g⟩ H d' v := by
  unfold shut at e
  split at e
  · rename_i hl
    cases e
    have ea : (⟨α.a.take n, α.g⟩ : Pl) = α := by
      have : α.a.take n = α.a := List.take_of_length_le (by rw [hr.len]; omega)
      rw [this]
    rw [ea]
    exact ⟨hr, rv⟩
  · obtain ⟨d1, e1, e2⟩ := Option.bind_eq_some_iff.mp e
    obtain ⟨h1, e3, e4⟩ := Option.map_eq_some_iff.mp e2
    cases e4
    have hno : ∀ b, α.no b → Pl.no ⟨α.a.take n, α.g⟩ b := fun b z => ⟨fun hm => z.1 (List.mem_of_mem_take hm), z.2⟩
    have hf := fun k m v => lookR_rep (n := n) hr 20 k m v
    refine ⟨⟨?_, ?_, fun b hb => hr.ap b (List.mem_of_mem_take hb), hr.hid, fun k a o hk ho => ?_⟩, resB_rep hno hf e1 rv⟩
    · rw [resOs_len e3]; simp [hr.len]
    · exact hr.nd.sublist (List.take_sublist _ _)
    · obtain ⟨o0, h0, eo⟩ := resOs_get e3 ho
      have hkn : k < n := by
        have := (List.getElem?_eq_some_iff.mp h0).1
        rw [List.length_take] at this; omega
      have hk' : α.a[k]? = some a := by
        have : (α.a.take n)[k]? = some a := hk
        rw [List.getElem?_take_of_lt hkn] at this; exact this
      have h0' : h[k]? = some o0 := by rw [List.getElem?_take_of_lt hkn] at h0; exact h0
      have q := hr.obj k a o0 hk' h0'
      cases o0 with
      | lst xs =>
        obtain ⟨ys, e5, e6⟩ := Option.map_eq_some_iff.mp eo
        subst e6
        obtain ⟨vs, hv, rs⟩ := q
        exact ⟨vs, hv, resBs_rep hno hf e5 rs⟩
      | dct kvs =>
        obtain ⟨ys, e5, e6⟩ := Option.map_eq_some_iff.mp eo
        subst e6
        obtain ⟨ws, hv, ek, rs⟩ := q
        have hl : (kvs.map (·.1)).length = ys.length := by rw [resBs_len e5]; simp
        refine ⟨ws, hv, ?_, ?_⟩
        · rw [ek, List.map_fst_zip (by omega)]
        · rw [List.map_snd_zip (by omega)]
          exact resBs_rep hno hf e5 rs
theorem spM_seal {K : PySem.W.Frag} {f : FF} {vs : List V} {H : Hp} {Q : VK} {E : XK} (q : spM K (mSeal f) vs H Q E) : spM K f vs H Q E := by
  obtain ⟨α, h, ds, d, h', rs, hr, e, k⟩ := q
  obtain ⟨d1, h1, e1, e⟩ := bnd_inv e
  refine ⟨α, h, ds, d1, h1, rs, hr, e1, fun α' H' v ev hr' rv => ?_⟩
  have hle : h.length ≤ h1.length := by
    obtain ⟨_, β, eb, _⟩ := ev.pre
    rw [← hr.len, ← hr'.len, eb]; simp
  obtain ⟨hr2, rv2⟩ := shut_ok hr' hle e rv
  have ea : (⟨α'.a.take h.length, α'.g⟩ : Pl) = α := by
    obtain ⟨eg, β, eb, _⟩ := ev.pre
    rw [eb, ← hr.len, List.take_left', eg]
    rfl
  rw [ea] at hr2 rv2
  exact k α H' v ⟨⟨rfl, [], by simp, by simp⟩, ev.keep, ev.dom⟩ hr2 rv2
end L2
set_option Elab.async false
set_option linter.all false
set_option maxRecDepth 100000
namespace L2
open PySem PySem.Spec PyProof.Rows
noncomputable def seqL (h : HpM) : M → Option (List M)
  | .lst xs => some xs
  | .ref k => (match h[k]? with | some (.lst xs) => some xs | _ => none)
  | _ => none
theorem seqL_rep {K : PySem.W.Frag} {α : Pl} {h : HpM} {H : Hp} {m : M} {v : V} {xs : List M} (hr : Rl K α h H) (rm : RepA K α H m v) (e : seqL h m = some xs) : ∃ a vs, v = .ref a ∧ H a = some (.lst vs) ∧ RepAs K α H xs vs := by
  unfold seqL at e
  split at e
  · cases e
    obtain ⟨a, vs, e1, n, ha, rs⟩ := rm
    exact ⟨a, vs, e1, ha, rs⟩
  · split at e
    · rename_i hk
      cases e
      obtain ⟨a, ha, e1⟩ := rm
      obtain ⟨vs, hv, rs⟩ := hr.obj _ a _ ha hk
      exact ⟨a, vs, e1, hv, rs⟩
    · cases e
  · cases e
noncomputable def seqR (h : HpM) : M → Option (List M)
  | .scr ns => some (ns.map M.int)
  | m => seqL h m
theorem seqR_rep {K : PySem.W.Frag} {α : Pl} {h : HpM} {H : Hp} {m : M} {v : V} {xs : List M} (hr : Rl K α h H) (rm : RepA K α H m v) (e : seqR h m = some xs) : ∃ a vs, v = .ref a ∧ SqL K H a vs ∧ RepAs K α H xs vs := by
  unfold seqR at e
  split at e
  · cases e
    obtain ⟨a, e1, t⟩ := rm
    exact ⟨a, _, e1, t.sq, RepAs.ints⟩
  · obtain ⟨a, vs, e1, ha, rs⟩ := seqL_rep hr rm e
    exact ⟨a, vs, e1, .of ha, rs⟩
noncomputable def cutM (xs : List M) (lo hi : Option Int) : List M := (xs.drop (HT.sIx xs.length 0 lo)).take (HT.sIx xs.length xs.length hi - HT.sIx xs.length 0 lo)
theorem RepAs.cut {K : PySem.W.Frag} {α : Pl} {H : Hp} {xs : List M} {vs : List V} {lo hi : Option Int} (r : RepAs K α H xs vs) : RepAs K α H (cutM xs lo hi) (cutV vs lo hi) := by
  unfold cutM cutV
  rw [← r.length]
  exact (r.drop _).take _
theorem laidL {K : PySem.W.Frag} {α : Pl} {h : HpM} {H : Hp} {p : Addr} {xs : List M} {vs : List V} (hr : Rl K α h H) (hp : H p = none) (rs : RepAs K α H xs vs) : RepA K α (upd H p (.lst vs)) (.lst xs) (.ref p) :=
  ⟨p, vs, rfl, hr.new hp, upd_same, rs.ev (.same (same_new hp _))⟩
theorem laidT {K : PySem.W.Frag} {α : Pl} {h : HpM} {H : Hp} {p : Addr} {xs : List M} {vs : List V} (hr : Rl K α h H) (hp : H p = none) (rs : RepAs K α H xs vs) : RepA K α (upd H p (.tup vs)) (.tup xs) (.ref p) :=
  ⟨p, vs, rfl, .inl ⟨.inl upd_same, hr.new hp⟩, rs.ev (.same (same_new hp _))⟩
section
variable {X : Cx} {K : PySem.W.Frag}
def rCatK (K : PySem.W.Frag) : R2 := fun x y H Q => ∃ (a b : Addr) (xs ys : List V), x = .ref a ∧ y = .ref b ∧ SqT K H a xs ∧ SqT K H b ys ∧ xs.length + ys.length ≤ sizeLine ∧
  (xs = [] → Q (.ref b) H) ∧ (xs ≠ [] → ys = [] → Q (.ref a) H) ∧ (xs ≠ [] → ys ≠ [] → ∀ p, H p = none → Q (.ref p) (upd H p (.tup (xs ++ ys))))
theorem op_catK : OpR X (binaryOp .Add) (rCatK X.K) := by
  intro pins s σ H x y v u Q I rx ry h
  obtain ⟨a, b, xs, ys, rfl, rfl, ha, hb, hz, q0, q1, q2⟩ := h
  by_cases hx : xs = []
  · subst hx
    cases rx
    cases ry
    obtain ⟨its, r1, p1, _⟩ := I.tuple ha
    obtain ⟨its2, r2, p2, _⟩ := I.tuple hb
    cases r1
    obtain ⟨⟨cls, dd, data, sl⟩, ho, hc, n, hd⟩ := id p1
    obtain ⟨⟨cls2, dd2, data2, sl2⟩, ho2, hc2, n2, hd2⟩ := id p2
    simp only at hc hd hc2 hd2
    subst hc hd hc2 hd2
    refine concat_meets ⟨_, ho, rfl⟩ ⟨_, ho2, rfl⟩ noFill_tuple_add seq_tuple_add PySem.F.slot_tuple_add PySem.F.entry_tuple_add (PySem.F.args_tuple_add_2 _ _)
      (tuple_addW0 a b _ _ n n2 dd dd2 sl sl2 (by simp)) ⟨ho, ho2, ?_⟩
    exact ⟨.ref b, H, I, rfl, q0 rfl⟩
  · exact op_catT pins s σ H _ _ v u Q I rx ry ⟨a, b, xs, ys, rfl, rfl, ha, hb, hx, hz, fun e => q1 hx e, fun e => q2 hx e⟩
noncomputable def opAdd (x y : M) (h : HpM) : Option M := match x, y with
  | .int i, .int j => some (.int (i + j))
  | .str a, .str b => if a.length + b.length ≤ 16777216 then some (.str (a ++ b)) else none
  | .tup xs, .tup ys => if xs.length + ys.length ≤ 16777216 then some (.tup (xs ++ ys)) else none
  | x, y => (seqL h x).bind fun xs => (seqL h y).bind fun ys => if xs.length + ys.length ≤ 16777216 then some (.lst (xs ++ ys)) else none
def rAddM (K : PySem.W.Frag) : R2 := fun x y H Q => rI0 (fun i j => .int (i + j)) x y H Q ∨ (∃ i j, x = .str i ∧ y = .str j ∧ i.length + j.length ≤ sizeLine ∧ Q (.str (i ++ j)) H) ∨ rCat x y H Q ∨ rCatK K x y H Q
theorem op_addM : OpR X (binaryOp .Add) (rAddM X.K) := by
  intro pins s σ H x y v u Q I rx ry h
  rcases h with h | h | h | h
  · exact op_add pins s σ H x y v u Q I rx ry h
  · exact op_add_str pins s σ H x y v u Q I rx ry h
  · exact op_cat pins s σ H x y v u Q I rx ry h
  · exact op_catK pins s σ H x y v u Q I rx ry h
theorem fm_add : OpM K (rAddM K) opAdd := by
  intro α h H x y d u v Q hr rx ry e k
  unfold opAdd at e
  split at e
  · cases e
    exact .inl ⟨_, _, rx, ry, k H _ (Same.refl _) rfl⟩
  · split at e
    · rename_i hl
      cases e
      exact .inr (.inl ⟨_, _, rx, ry, by rw [sizeLine_eq]; exact hl, k H _ (Same.refl _) rfl⟩)
    · cases e
  · split at e
    · rename_i xs ys hl
      cases e
      obtain ⟨a, vs, rfl, ta, rs⟩ := id rx
      obtain ⟨b, ws, rfl, tb, rt⟩ := id ry
      refine .inr (.inr (.inr ⟨a, b, vs, ws, rfl, rfl, ta.sq, tb.sq, by rw [← rs.length, ← rt.length, sizeLine_eq]; exact hl, fun e => ?_, fun _ e => ?_, fun _ _ p hp => ?_⟩))
      · have : xs = [] := by have := rs.length; rw [e] at this; simpa using this
        subst this
        exact k H _ (Same.refl _) ry
      · have : ys = [] := by have := rt.length; rw [e] at this; simpa using this
        subst this
        rw [List.append_nil] at k
        exact k H _ (Same.refl _) rx
      · exact k _ _ (same_new hp _) (laidT hr hp (rs.app rt))
    · cases e
  · obtain ⟨xs, e1, e⟩ := Option.bind_eq_some_iff.mp e
    obtain ⟨ys, e2, e⟩ := Option.bind_eq_some_iff.mp e
    split at e
    · rename_i hl
      cases e
      obtain ⟨a, vs, rfl, ta, rs⟩ := seqL_rep hr rx e1
      obtain ⟨b, ws, rfl, tb, rt⟩ := seqL_rep hr ry e2
      exact .inr (.inr (.inl ⟨a, b, vs, ws, rfl, rfl, ta, tb, by rw [← rs.length, ← rt.length, sizeLine_eq]; exact hl, fun p hp => k _ _ (same_new hp _) (laidL hr hp (rs.app rt))⟩))
    · cases e
noncomputable def onI (f : Int → Int → Option M) (x y : M) (_ : HpM) : Option M := match x, y with | .int i, .int j => f i j | _, _ => none
noncomputable def opSub : M → M → HpM → Option M := onI fun i j => some (.int (i - j))
noncomputable def opMod : M → M → HpM → Option M := onI fun i j => if 0 < j then some (.int (i % j)) else none
noncomputable def opDiv : M → M → HpM → Option M := onI fun i j => if 0 < j ∧ j < 1073741824 then some (.int (i / j)) else none
noncomputable def opPow : M → M → HpM → Option M := onI fun i j => if 0 ≤ j ∧ j ≤ 1000000 ∧ i.natAbs < 18446744073709551616 then some (.int (i ^ j.toNat)) else none
theorem onI_inv {f : Int → Int → Option M} {x y d : M} {h : HpM} (e : onI f x y h = some d) : ∃ i j, x = .int i ∧ y = .int j ∧ f i j = some d := by
  unfold onI at e
  split at e
  · exact ⟨_, _, rfl, rfl, e⟩
  · cases e
theorem fm_sub : OpM K (rI0 fun i j => .int (i - j)) opSub := by
  intro α h H x y d u v Q hr rx ry e k
  obtain ⟨i, j, rfl, rfl, e'⟩ := onI_inv e
  clear e
  have e := e'
  clear e'
  cases e
  exact ⟨i, j, rx, ry, k H _ (Same.refl _) rfl⟩
theorem fm_mod : OpM K (rI (fun _ j => 0 < j) fun i j => .int (i % j)) opMod := by
  intro α h H x y d u v Q hr rx ry e k
  obtain ⟨i, j, rfl, rfl, e'⟩ := onI_inv e
  clear e
  have e := e'
  clear e'
  split at e
  · rename_i hj
    cases e
    exact ⟨i, j, rx, ry, hj, k H _ (Same.refl _) rfl⟩
  · cases e
theorem fm_div : OpM K (rI CDiv fun i j => .int (i / j)) opDiv := by
  intro α h H x y d u v Q hr rx ry e k
  obtain ⟨i, j, rfl, rfl, e'⟩ := onI_inv e
  clear e
  have e := e'
  clear e'
  split at e
  · rename_i hj
    cases e
    exact ⟨i, j, rx, ry, hj, k H _ (Same.refl _) rfl⟩
  · cases e
theorem fm_pow : OpM K (rI CPow fun i j => .int (i ^ j.toNat)) opPow := by
  intro α h H x y d u v Q hr rx ry e k
  obtain ⟨i, j, rfl, rfl, e'⟩ := onI_inv e
  clear e
  have e := e'
  clear e'
  split at e
  · rename_i hj
    cases e
    exact ⟨i, j, rx, ry, ⟨hj.1, hj.2.1, by have := hj.2.2; omega⟩, k H _ (Same.refl _) rfl⟩
  · cases e
noncomputable def reps (n : Nat) (xs : List M) : List M := (List.replicate n xs).flatten
noncomputable def opMul (x y : M) (h : HpM) : Option M := match x, y with
  | .int i, .int j => if (-18446744073709551616 < i ∧ i < 18446744073709551616) ∨ (-18446744073709551616 < j ∧ j < 18446744073709551616) then some (.int (i * j)) else none
  | .str z, .int j => if z.length ≤ 16 ∧ 0 ≤ j ∧ j ≤ 1000 then some (.str (Txt.mul z j)) else none
  | x, .int j => (seqL h x).bind fun xs => if -9223372036854775808 ≤ j ∧ j < 9223372036854775808 ∧ xs.length * j.toNat ≤ 16777216 then some (.lst (reps j.toNat xs)) else none
  | _, _ => none
def rMulM : R2 := fun x y H Q => rI CMul (fun i j => .int (i * j)) x y H Q ∨ (∃ i j, x = .str i ∧ y = .int j ∧ (i.length ≤ 16 ∧ 0 ≤ j ∧ j ≤ 1000) ∧ Q (.str (Txt.mul i j)) H) ∨ rRep x y H Q
theorem op_mulM : OpR X (binaryOp .Mult) rMulM := by
  intro pins s σ H x y v u Q I rx ry h
  rcases h with h | h | h
  · exact op_mul pins s σ H x y v u Q I rx ry h
  · exact op_mul_str pins s σ H x y v u Q I rx ry h
  · exact op_rep pins s σ H x y v u Q I rx ry h
theorem RepAs.reps {α : Pl} {H : Hp} {xs : List M} {vs : List V} (r : RepAs K α H xs vs) : ∀ n : Nat, RepAs K α H (L2.reps n xs) (List.replicate n vs).flatten
  | 0 => rfl
  | n + 1 => by
    unfold L2.reps
    rw [List.replicate_succ, List.replicate_succ, List.flatten_cons, List.flatten_cons]
    exact r.app (RepAs.reps r n)
theorem fm_mul : OpM K rMulM opMul := by
  intro α h H x y d u v Q hr rx ry e k
  unfold opMul at e
  split at e
  · split at e
    · rename_i hl
      cases e
      refine .inl ⟨_, _, rx, ry, ?_, k H _ (Same.refl _) rfl⟩
      unfold CMul
      omega
    · cases e
  · split at e
    · rename_i hl
      cases e
      exact .inr (.inl ⟨_, _, rx, ry, hl, k H _ (Same.refl _) rfl⟩)
    · cases e
  · obtain ⟨xs, e1, e⟩ := Option.bind_eq_some_iff.mp e
    split at e
    · rename_i hl
      cases e
      obtain ⟨a, vs, rfl, ta, rs⟩ := seqL_rep hr rx e1
      exact .inr (.inr ⟨a, _, vs, rfl, ry, ta, by omega, by omega, by rw [← rs.length, sizeLine_eq]; omega, fun p hp => k _ _ (same_new hp _) (laidL hr hp (rs.reps _))⟩)
    · cases e
  · cases e
noncomputable def onO (f : Int → Int → Bool) (g : List Nat → List Nat → Bool) (x y : M) (_ : HpM) : Option M := match x, y with
  | .int i, .int j => some (.bl (f i j))
  | .str a, .str b => some (.bl (g a.cps.toList b.cps.toList))
  | _, _ => none
noncomputable def opLt := onO (fun i j => decide (i < j)) fun a b => decide (a < b)
noncomputable def opLe := onO (fun i j => decide (i ≤ j)) fun a b => !decide (b < a)
noncomputable def opGt := onO (fun i j => decide (j < i)) fun a b => decide (b < a)
noncomputable def opGe := onO (fun i j => decide (j ≤ i)) fun a b => !decide (a < b)
theorem onO_inv {f : Int → Int → Bool} {g : List Nat → List Nat → Bool} {x y d : M} {h : HpM} (e : onO f g x y h = some d) : (∃ i j, x = .int i ∧ y = .int j ∧ d = .bl (f i j)) ∨ ∃ a b, x = .str a ∧ y = .str b ∧ d = .bl (g a.cps.toList b.cps.toList) := by
  unfold onO at e
  split at e
  · cases e; exact .inl ⟨_, _, rfl, rfl, rfl⟩
  · cases e; exact .inr ⟨_, _, rfl, rfl, rfl⟩
  · cases e
theorem fm_lt : OpM K rLtA opLt := by
  intro α h H x y d u v Q hr rx ry e k
  rcases onO_inv e with ⟨i, j, rfl, rfl, rfl⟩ | ⟨i, j, rfl, rfl, rfl⟩
  · exact .inl ⟨i, j, rx, ry, k H _ (Same.refl _) rfl⟩
  · exact .inr ⟨i, j, rx, ry, k H _ (Same.refl _) rfl⟩
theorem fm_le : OpM K rLeA opLe := by
  intro α h H x y d u v Q hr rx ry e k
  rcases onO_inv e with ⟨i, j, rfl, rfl, rfl⟩ | ⟨i, j, rfl, rfl, rfl⟩
  · exact .inl ⟨i, j, rx, ry, k H _ (Same.refl _) rfl⟩
  · exact .inr ⟨i, j, rx, ry, k H _ (Same.refl _) rfl⟩
theorem fm_gt : OpM K rGtA opGt := by
  intro α h H x y d u v Q hr rx ry e k
  rcases onO_inv e with ⟨i, j, rfl, rfl, rfl⟩ | ⟨i, j, rfl, rfl, rfl⟩
  · exact .inl ⟨i, j, rx, ry, k H _ (Same.refl _) rfl⟩
  · exact .inr ⟨i, j, rx, ry, k H _ (Same.refl _) rfl⟩
theorem fm_ge : OpM K rGeA opGe := by
  intro α h H x y d u v Q hr rx ry e k
  rcases onO_inv e with ⟨i, j, rfl, rfl, rfl⟩ | ⟨i, j, rfl, rfl, rfl⟩
  · exact .inl ⟨i, j, rx, ry, k H _ (Same.refl _) rfl⟩
  · exact .inr ⟨i, j, rx, ry, k H _ (Same.refl _) rfl⟩
noncomputable def isN : M → Bool
  | .non => true
  | _ => false
theorem isN_rep {α : Pl} {H : Hp} {m : M} {v : V} (r : RepA K α H m v) : decide (v = .non) = isN m := by
  cases m with
  | non => cases (show v = .non from r); rfl
  | bl b => cases (show v = .bl b from r); rfl
  | int b => cases (show v = .int b from r); rfl
  | str b => cases (show v = .str b from r); rfl
  | ty b => cases (show v = .ty b from r); rfl
  | tup xs => obtain ⟨a, vs, e, _⟩ := r; subst e; rfl
  | lst xs => obtain ⟨a, vs, e, _⟩ := r; subst e; rfl
  | dct xs => obtain ⟨a, vs, e, _⟩ := r; subst e; rfl
  | ref k => obtain ⟨a, _, e⟩ := r; subst e; rfl
  | scr ns => obtain ⟨a, e, _⟩ := r; subst e; rfl
noncomputable def opIs (x y : M) (_ : HpM) : Option M := match y with
  | .non => some (.bl (isN x))
  | .bl j => (match x with | .bl i => some (.bl (i == j)) | _ => none)
  | _ => none
noncomputable def opIsNot (x y : M) (_ : HpM) : Option M := match y with
  | .non => some (.bl (!isN x))
  | .bl j => (match x with | .bl i => some (.bl (i != j)) | _ => none)
  | _ => none
theorem fm_is : OpM K rIsA opIs := by
  intro α h H x y d u v Q hr rx ry e k
  unfold opIs at e
  split at e
  · cases e
    exact .inl ⟨ry, by rw [isN_rep rx]; exact k H _ (Same.refl _) rfl⟩
  · split at e
    · cases e
      exact .inr ⟨_, _, rx, ry, k H _ (Same.refl _) rfl⟩
    · cases e
  · cases e
theorem fm_isNot : OpM K rIsNotA opIsNot := by
  intro α h H x y d u v Q hr rx ry e k
  unfold opIsNot at e
  split at e
  · cases e
    exact .inl ⟨ry, by rw [isN_rep rx]; exact k H _ (Same.refl _) rfl⟩
  · split at e
    · cases e
      exact .inr ⟨_, _, rx, ry, k H _ (Same.refl _) rfl⟩
    · cases e
  · cases e
noncomputable def opNeg (x : M) (_ : HpM) : Option M := match x with | .int i => some (.int (-i)) | _ => none
theorem fm_neg : UnM K (rU fun i => .int (-i)) opNeg := by
  intro α h H x d u Q hr rx e k
  unfold opNeg at e
  split at e
  · cases e
    exact ⟨_, rx, k H _ (Same.refl _) rfl⟩
  · cases e
noncomputable def keyM : M → Option Key
  | .int i => some (.inl i)
  | .str z => some (.inr z)
  | _ => none
theorem keyM_rep {K : PySem.W.Frag} {α : Pl} {H : Hp} {m : M} {v : V} {k : Key} (e : keyM m = some k) (r : RepA K α H m v) : v = kV k := by
  cases m <;> cases e <;> exact r
noncomputable def dctOf (h : HpM) : M → Option (List (Key × M))
  | .dct ks xs => if ks.length = xs.length then some (ks.zip xs) else none
  | .ref k => (match h[k]? with | some (.dct kvs) => some kvs | _ => none)
  | _ => none
theorem dctOf_rep {K : PySem.W.Frag} {α : Pl} {h : HpM} {H : Hp} {m : M} {v : V} {kvs : List (Key × M)} (hr : Rl K α h H) (rm : RepA K α H m v) (e : dctOf h m = some kvs) : ∃ a ws, v = .ref a ∧ H a = some (.dK ws) ∧ ws.map (·.1) = kvs.map (·.1) ∧ RepAs K α H (kvs.map (·.2)) (ws.map (·.2)) := by
  unfold dctOf at e
  split at e
  · split at e
    · rename_i hl
      cases e
      obtain ⟨a, ws, e1, n, ha, ek, rs⟩ := rm
      exact ⟨a, ws, e1, ha, by rw [ek, List.map_fst_zip (by omega)], by rw [List.map_snd_zip (by omega)]; exact rs⟩
    · cases e
  · split at e
    · rename_i hk
      cases e
      obtain ⟨a, ha, e1⟩ := rm
      obtain ⟨ws, hv, ek, rs⟩ := hr.obj _ a _ ha hk
      exact ⟨a, ws, e1, hv, ek, rs⟩
    · cases e
  · cases e
noncomputable def valM (kvs : List (Key × M)) (k : Key) : Option M := (kvs.find? fun kv => decide (kv.1 = k)).map (·.2)
theorem valM_rep {K : PySem.W.Frag} {α : Pl} {H : Hp} (k : Key) : ∀ {kvs : List (Key × M)} {ws : List (Key × V)}, ws.map (·.1) = kvs.map (·.1) → RepAs K α H (kvs.map (·.2)) (ws.map (·.2)) →
    (valV ws k).isSome = (valM kvs k).isSome ∧ ∀ m, valM kvs k = some m → ∃ v, valV ws k = some v ∧ RepA K α H m v
  | [], [], _, _ => ⟨rfl, fun m h => by cases h⟩
  | [], _ :: _, e, _ => by cases e
  | _ :: _, [], e, _ => by cases e
  | kv :: kvs, w :: ws, e, r => by
    obtain ⟨v, q, e1, h1, h2⟩ := r
    have e1' : w.2 :: ws.map (·.2) = v :: q := e1
    injection e1' with ev eq
    subst ev eq
    have e' : w.1 :: ws.map (·.1) = kv.1 :: kvs.map (·.1) := e
    injection e' with ek es
    obtain ⟨i1, i2⟩ := valM_rep k es h2
    by_cases hk : kv.1 = k
    · have hw : w.1 = k := ek.trans hk
      have a1 : valM (kv :: kvs) k = some kv.2 := by simp [valM, List.find?_cons, hk]
      have a2 : valV (w :: ws) k = some w.2 := valV_pos hw
      rw [a1, a2]
      exact ⟨rfl, fun m h => by cases h; exact ⟨_, rfl, h1⟩⟩
    · have hw : ¬ w.1 = k := fun z => hk (ek.symm.trans z)
      have a1 : valM (kv :: kvs) k = valM kvs k := by simp [valM, List.find?_cons, hk]
      have a2 : valV (w :: ws) k = valV ws k := valV_neg hw
      rw [a1, a2]
      exact ⟨i1, i2⟩
noncomputable def ixM (x y : M) (h : HpM) : Option M := match dctOf h x with
  | some kvs => (keyM y).bind (valM kvs)
  | none => (match y with
  | .int i => (match x with
    | .tup xs => atI xs i
    | .str z => if z.length ≤ 16777216 then (atI z.cps.toList i).map fun c => .str ⟨#[c]⟩ else none
    | x => (seqR h x).bind fun xs => atI xs i)
  | _ => none)
def rIxD : R2 := fun x y H Q => ∃ a v, x = .ref a ∧ DGet H a y (some v) ∧ Q v H
theorem ix_dict (hu : X.A.units + 1 < cLine) : IxR X rIxD := by
  intro value slice pins s σ H x y v u Q I rx ry q hs
  obtain ⟨a, z, rfl, g, q⟩ := q
  cases (show v = .ref a from rx)
  have hT := dict_typeIs I g
  unfold subscriptTail
  refine wpAny_bind ?_
  rw [getitemInPython_of_ne hT.not_modules]
  refine wpAny_bind (wpAny_specialOf hT PySem.F.slot_dict_getitem.lookup ?_)
  have fin : wpAny (model X.prog X.w) X.A (subscripted slice false (.ref a) u) (fun r s₃ => wpAny (model X.prog X.w) X.A (letTemporaryGo value (.ref a) r >>= fun _ => pure r) (EP X pins σ Q) X.xe s₃) X.xe s := by
    rw [hs]
    exact wpAny_operating (wpAny_mono (d_getItem hu I g ry fun w' s3 I3 rw' => (⟨z, H, I3, rw', q⟩ : EP X pins σ Q w' s3)) (fun r s₃ h₃ => wpAny_bind (wpAny_letTemporaryGo (wpAny_pure h₃))) fun _ _ x => x)
  first
    | exact wpAny_pure (wpAny_bind fin)
    | exact wpAny_bind (wpAny_pure (wpAny_bind fin))
    | exact wpAny_bind fin
def rIxQ (K : PySem.W.Frag) : R2 := fun x y H Q => rIxD x y H Q ∨ rIx K x y H Q
theorem ix_M (hu : X.A.units + 151 < cLine) : IxR X (rIxQ X.K) := (ix_dict (by omega)).or ix_seq
theorem fm_ix : OpM K (rIxQ K) ixM := by
  intro α h H x y d u v Q hr rx ry e k
  unfold ixM at e
  split at e
  · rename_i kvs hk
    obtain ⟨key, e1, e2⟩ := Option.bind_eq_some_iff.mp e
    obtain ⟨a, ws, rfl, ha, ek, rs⟩ := dctOf_rep hr rx hk
    obtain ⟨w, hw, rw'⟩ := (valM_rep key ek rs).2 d e2
    cases (keyM_rep e1 ry)
    exact .inl ⟨a, w, rfl, by rw [← hw]; exact DGet.k ha, k H _ (Same.refl _) rw'⟩
  refine .inr ?_
  split at e
  · rename_i i
    split at e
    · obtain ⟨a, vs, rfl, t, rs⟩ := rx
      obtain ⟨w, hw, rw'⟩ := rs.at e
      exact .inr (.inl ⟨a, vs, i, w, rfl, ry, t.sq, hw, k H _ (Same.refl _) rw'⟩)
    · split at e
      · rename_i hl
        obtain ⟨c, e1, e2⟩ := Option.map_eq_some_iff.mp e
        subst e2
        exact .inr (.inr ⟨_, i, c, rx, ry, by rw [sizeLine_eq]; exact hl, e1, k H _ (Same.refl _) rfl⟩)
      · cases e
    · obtain ⟨xs, e1, e⟩ := Option.bind_eq_some_iff.mp e
      obtain ⟨a, vs, rfl, t, rs⟩ := seqR_rep hr rx e1
      obtain ⟨w, hw, rw'⟩ := rs.at e
      exact .inl ⟨a, vs, i, w, rfl, ry, t, hw, k H _ (Same.refl _) rw'⟩
  · cases e
def rSlK (K : PySem.W.Frag) : V → Option Int → Option Int → Hp → VK → Prop := fun x lo hi H Q => ∃ a xs, x = .ref a ∧ SqT K H a xs ∧ (cutV xs lo hi = xs → Q (.ref a) H) ∧ ∀ p, H p = none → Q (.ref p) (upd H p (.tup (cutV xs lo hi)))
theorem sl_tupK : SlR X (rSlK X.K) := by
  intro pins s σ H x v vl vu lo hi sl Q I rx hs pl pu h
  obtain ⟨a, xs, rfl, hx, q1, q2⟩ := h
  by_cases hw : HT.sIx xs.length 0 lo = 0 ∧ HT.sIx xs.length xs.length hi = xs.length
  · cases rx
    obtain ⟨its, r, ht, _⟩ := I.tuple hx
    have hlen : its.toArray.size = xs.length := by rw [List.size_toArray]; exact r.length.symm
    refine ⟨"tuple", _, PyProof.Rows.slot_tuple_getitem.lookup, ht.typeIs, ?_⟩
    refine whole_tuple ht hs pl pu (by rw [hlen]; exact hw) ⟨.ref a, H, I, rfl, q1 ?_⟩
    unfold cutV; rw [hw.1, hw.2]; simp
  · exact sl_tup pins s σ H _ v vl vu lo hi sl Q I rx hs pl pu ⟨a, xs, rfl, hx, hw, q2⟩
noncomputable def slM (x : M) (lo hi : Option Int) (h : HpM) : Option M := match x with
  | .tup xs => some (.tup (cutM xs lo hi))
  | .str z => if z.length ≤ 16777216 then some (.str (Txt.slice z lo hi)) else none
  | x => (seqR h x).map fun xs => .lst (cutM xs lo hi)
def rSlM (K : PySem.W.Frag) : V → Option Int → Option Int → Hp → VK → Prop := fun x lo hi H Q => rSlL K x lo hi H Q ∨ rSlK K x lo hi H Q ∨ rSlS x lo hi H Q
theorem sl_M : SlR X (rSlM X.K) := sl_list.or (sl_tupK.or sl_str)
theorem fm_sl : SlM K (rSlM K) slM := by
  intro α h H x d lo hi u Q hr rx e k
  unfold slM at e
  split at e
  · cases e
    obtain ⟨a, vs, rfl, t, rs⟩ := id rx
    refine .inr (.inl ⟨a, vs, rfl, t.sq, fun e => ?_, fun p hp => k _ _ (same_new hp _) (laidT hr hp rs.cut)⟩)
    have rc := rs.cut (lo := lo) (hi := hi)
    rw [e] at rc
    exact k H _ (Same.refl _) ⟨a, vs, rfl, t, rc⟩
  · split at e
    · rename_i hl
      cases e
      exact .inr (.inr ⟨_, rx, by rw [sizeLine_eq]; exact hl, k H _ (Same.refl _) rfl⟩)
    · cases e
  · obtain ⟨xs, e1, e2⟩ := Option.map_eq_some_iff.mp e
    subst e2
    obtain ⟨a, vs, rfl, t, rs⟩ := seqR_rep hr rx e1
    exact .inl ⟨a, vs, rfl, t, fun p hp => k _ _ (same_new hp _) (laidL hr hp rs.cut)⟩
end
end L2
set_option Elab.async false
set_option linter.all false
set_option maxRecDepth 100000
namespace L2
open PySem PySem.Spec PyProof.Rows
mutual
noncomputable def RepK (K : PySem.W.Frag) (H : Hp) : D → V → Prop
  | .non, v => v = .non
  | .bl b, v => v = .bl b
  | .int i, v => v = .int i
  | .str x, v => v = .str x
  | .tup ds, v => ∃ a xs, v = .ref a ∧ SqT K H a xs ∧ RepKs K H ds xs
  | .lst ds, v => ∃ a xs, v = .ref a ∧ SqL K H a xs ∧ RepKs K H ds xs
noncomputable def RepKs (K : PySem.W.Frag) (H : Hp) : List D → List V → Prop
  | [], xs => xs = []
  | d :: ds, xs => ∃ x r, xs = x :: r ∧ RepK K H d x ∧ RepKs K H ds r
end
section
open PySem.SeqAt
variable {X : Cx} {pins : List (Addr × Obj)} {σ : St} {H : Hp} {s : Shared}
theorem Inv.tupK (I : Inv X pins σ H s) {a : Addr} {xs : List V} (h : SqT X.K H a xs) : ∃ its : List Value, Vals xs its ∧ s.heap.IsTuple a its.toArray := by
  obtain ⟨its, r, t, _⟩ := I.tuple h
  exact ⟨its, r, t⟩
theorem Inv.lstK (I : Inv X pins σ H s) {a : Addr} {xs : List V} (h : SqL X.K H a xs) : ∃ its : List Value, Vals xs its ∧ s.heap.IsList a its.toArray := by
  obtain ⟨its, r, t, _⟩ := I.list h
  exact ⟨its, r, t.isList⟩
theorem Inv.apartK (I : Inv X pins σ H s) {a : Addr} {xs ys : List V} (h : SqT X.K H a xs) (h' : SqL X.K H a ys) : False := by
  obtain ⟨its, r, o, e, c, _⟩ := I.tupK h
  obtain ⟨its', r', o', e', c', _⟩ := I.lstK h'
  rw [e] at e'
  cases e'
  rw [c] at c'
  exact absurd c' (by decide)
mutual
theorem RepK.inj (I : Inv X pins σ H s) : ∀ {d d' : D} {v : V}, RepK X.K H d v → RepK X.K H d' v → d = d'
  | .non, d', v, h, h' => by
    cases (show v = .non from h)
    cases d' <;> simp_all [RepK]
  | .bl b, d', v, h, h' => by
    cases (show v = .bl b from h)
    cases d' <;> simp_all [RepK]
  | .int b, d', v, h, h' => by
    cases (show v = .int b from h)
    cases d' <;> simp_all [RepK]
  | .str b, d', v, h, h' => by
    cases (show v = .str b from h)
    cases d' <;> simp_all [RepK]
  | .tup ds, d', v, h, h' => by
    obtain ⟨a, xs, rfl, ha, hs⟩ := h
    cases d' with
    | tup ds' =>
      obtain ⟨a', xs', e, ha', hs'⟩ := h'
      cases e
      cases I.tuple_inj ha ha'
      rw [RepKs.inj I hs hs']
    | lst ds' =>
      obtain ⟨a', xs', e, ha', hs'⟩ := h'
      cases e
      exact (I.apartK ha ha').elim
    | _ => cases (show V.ref a = _ from h')
  | .lst ds, d', v, h, h' => by
    obtain ⟨a, xs, rfl, ha, hs⟩ := h
    cases d' with
    | lst ds' =>
      obtain ⟨a', xs', e, ha', hs'⟩ := h'
      cases e
      cases I.list_inj ha ha'
      rw [RepKs.inj I hs hs']
    | tup ds' =>
      obtain ⟨a', xs', e, ha', hs'⟩ := h'
      cases e
      exact (I.apartK ha' ha).elim
    | _ => cases (show V.ref a = _ from h')
theorem RepKs.inj (I : Inv X pins σ H s) : ∀ {ds ds' : List D} {xs : List V}, RepKs X.K H ds xs → RepKs X.K H ds' xs → ds = ds'
  | [], ds', xs, h, h' => by
    cases (show xs = [] from h)
    cases ds' with
    | nil => rfl
    | cons d r => obtain ⟨x, r', e, _⟩ := h'; cases e
  | d :: ds, ds', xs, h, h' => by
    obtain ⟨x, r, rfl, h1, h2⟩ := h
    cases ds' with
    | nil => cases (show x :: r = [] from h')
    | cons d2 r2 =>
      obtain ⟨x', r', e, h1', h2'⟩ := h'
      cases e
      rw [RepK.inj I h1 h1', RepKs.inj I h2 h2']
end
theorem RepKs.length {K : PySem.W.Frag} {H : Hp} : ∀ {ds : List D} {xs : List V}, RepKs K H ds xs → ds.length = xs.length
  | [], xs, h => by cases (show xs = [] from h); rfl
  | d :: ds, xs, h => by
    obtain ⟨x, r, rfl, _, h2⟩ := h
    simp [RepKs.length h2]
theorem RepKs.get' {K : PySem.W.Frag} {H : Hp} : ∀ {ds : List D} {xs : List V} {j : Nat} {d : D}, RepKs K H ds xs → ds[j]? = some d → ∃ x, xs[j]? = some x ∧ RepK K H d x
  | [], xs, j, x, h, e => by simp at e
  | d :: ds, xs, 0, x, h, e => by
    obtain ⟨y, r, rfl, h1, h2⟩ := h
    simp at e; subst e
    exact ⟨y, rfl, h1⟩
  | d :: ds, xs, j + 1, x, h, e => by
    obtain ⟨y, r, rfl, h1, h2⟩ := h
    obtain ⟨d', e', h'⟩ := RepKs.get' (j := j) h2 (by simpa using e)
    exact ⟨d', by simpa using e', h'⟩
theorem seq_itemsK {A : Around} {xs ys : List V} {its its2 : List Value} {ds ds' : List D} (rv : Vals xs its) (rv2 : Vals ys its2) (hx : RepKs X.K H ds xs) (hy : RepKs X.K H ds' ys)
    (ih : ∀ (j : Nat) d d' x y u v, ds[j]? = some d → ds'[j]? = some d' → RepK X.K H d x → RepK X.K H d' y → RelV x u → RelV y v → EqAt A s u v (deq d d')) :
    ∀ j (h1 : j < its.toArray.size) (h2 : j < its2.toArray.size), EqAt A s its.toArray[j] its2.toArray[j] (deq (ds.getD j .non) (ds'.getD j .non)) := by
  intro j h1 h2
  have l1 := rv.length
  have l2 := rv2.length
  have k1 := hx.length
  have k2 := hy.length
  have h1' : j < its.length := by simpa using h1
  have h2' : j < its2.length := by simpa using h2
  have j1 : j < ds.length := by omega
  have j2 : j < ds'.length := by omega
  obtain ⟨x, ex, rx⟩ := hx.get' (j := j) (d := ds[j]) (by simp [j1])
  obtain ⟨y, ey, ry⟩ := hy.get' (j := j) (d := ds'[j]) (by simp [j2])
  obtain ⟨u, eu, ru⟩ := rv.get ex
  obtain ⟨v, ev, rv'⟩ := rv2.get ey
  have e1 : its.toArray[j] = u := by
    have : its[j]? = some its[j] := by simp [h1']
    rw [this] at eu
    simpa using Option.some.inj eu
  have e2 : its2.toArray[j] = v := by
    have : its2[j]? = some its2[j] := by simp [h2']
    rw [this] at ev
    simpa using Option.some.inj ev
  have e3 : ds.getD j .non = ds[j] := by simp [List.getD_eq_getElem?_getD, j1]
  have e4 : ds'.getD j .non = ds'[j] := by simp [List.getD_eq_getElem?_getD, j2]
  rw [e1, e2, e3, e4]
  exact ih j _ _ x y u v (by simp [j1]) (by simp [j2]) rx ry ru rv'
theorem rc_and_eqK (I : Inv X pins σ H s) : ∀ (n : Nat) (A : Around) (d d' : D) (x y : V) (u v : Value), d.deep ≤ n → A.units + n < cLine → RepK X.K H d x → RepK X.K H d' y → RelV x u → RelV y v →
    RcAt A s u v (deq d d') ∧ EqAt A s u v (deq d d') := by
  intro n
  induction n with
  | zero =>
    intro A d d' x y u v hd hu hx hy ru rv
    have hu' : A.units < cLine := by omega
    cases d with
    | tup ds => simp [D.deep] at hd
    | lst ds => simp [D.deep] at hd
    | non =>
      cases (show x = .non from hx); cases ru
      cases d' with
      | non => cases (show y = .non from hy); cases rv; simp only [deq]; exact ⟨RcAt.none_none, EqAt.same _⟩
      | bl b => cases (show y = .bl b from hy); cases rv; simp only [deq]; exact ⟨RcAt.none_bool b, EqAt.none_bool b⟩
      | int i => cases (show y = .int i from hy); obtain ⟨t, rfl⟩ := rv; simp only [deq]; exact ⟨RcAt.none_int i t, EqAt.none_int i t⟩
      | str i => cases (show y = .str i from hy); obtain ⟨t, rfl⟩ := rv; simp only [deq]; exact ⟨RcAt.none_str i t, EqAt.none_str i t⟩
      | tup ds => obtain ⟨a, xs, rfl, ha, _⟩ := hy; cases rv; obtain ⟨its, r, ht⟩ := I.tupK ha; simp only [deq]; exact ⟨RcAt.none_tuple ht hu', EqAt.none_tuple ht hu'⟩
      | lst ds => obtain ⟨a, xs, rfl, ha, _⟩ := hy; cases rv; obtain ⟨its, r, ht⟩ := I.lstK ha; simp only [deq]; exact ⟨RcAt.none_list ht hu', EqAt.none_list ht hu'⟩
    | bl a =>
      cases (show x = .bl a from hx); cases ru
      cases d' with
      | non => cases (show y = .non from hy); cases rv; simp only [deq]; exact ⟨RcAt.bool_none a, EqAt.bool_none a⟩
      | bl b => cases (show y = .bl b from hy); cases rv; simp only [deq]; exact ⟨RcAt.bool_bool a b, EqAt.bool_bool a b⟩
      | int i => cases (show y = .int i from hy); obtain ⟨t, rfl⟩ := rv; simp only [deq]; exact ⟨RcAt.bool_int a i t, EqAt.bool_int a i t⟩
      | str i => cases (show y = .str i from hy); obtain ⟨t, rfl⟩ := rv; simp only [deq]; exact ⟨RcAt.bool_str a i t, EqAt.bool_str a i t⟩
      | tup ds => obtain ⟨a', xs, rfl, ha, _⟩ := hy; cases rv; obtain ⟨its, r, ht⟩ := I.tupK ha; simp only [deq]; exact ⟨RcAt.bool_tuple a ht hu', EqAt.bool_tuple a ht hu'⟩
      | lst ds => obtain ⟨a', xs, rfl, ha, _⟩ := hy; cases rv; obtain ⟨its, r, ht⟩ := I.lstK ha; simp only [deq]; exact ⟨RcAt.bool_list a ht hu', EqAt.bool_list a ht hu'⟩
    | int a =>
      cases (show x = .int a from hx); obtain ⟨ta, rfl⟩ := ru
      cases d' with
      | non => cases (show y = .non from hy); cases rv; simp only [deq]; exact ⟨RcAt.int_none a ta, EqAt.int_none a ta⟩
      | bl b => cases (show y = .bl b from hy); cases rv; simp only [deq]; exact ⟨RcAt.int_bool a ta b, EqAt.int_bool a ta b⟩
      | int i => cases (show y = .int i from hy); obtain ⟨t, rfl⟩ := rv; simp only [deq]; exact ⟨RcAt.int_int a ta i t, EqAt.int_int a ta i t⟩
      | str i => cases (show y = .str i from hy); obtain ⟨t, rfl⟩ := rv; simp only [deq]; exact ⟨RcAt.int_str a ta i t, EqAt.int_str a ta i t⟩
      | tup ds => obtain ⟨a', xs, rfl, ha, _⟩ := hy; cases rv; obtain ⟨its, r, ht⟩ := I.tupK ha; simp only [deq]; exact ⟨RcAt.int_tuple a ta ht hu', EqAt.int_tuple a ta ht hu'⟩
      | lst ds => obtain ⟨a', xs, rfl, ha, _⟩ := hy; cases rv; obtain ⟨its, r, ht⟩ := I.lstK ha; simp only [deq]; exact ⟨RcAt.int_list a ta ht hu', EqAt.int_list a ta ht hu'⟩
    | str a =>
      cases (show x = .str a from hx); obtain ⟨ta, rfl⟩ := ru
      cases d' with
      | non => cases (show y = .non from hy); cases rv; simp only [deq]; exact ⟨RcAt.str_none a ta, EqAt.str_none a ta⟩
      | bl b => cases (show y = .bl b from hy); cases rv; simp only [deq]; exact ⟨RcAt.str_bool a ta b, EqAt.str_bool a ta b⟩
      | int i => cases (show y = .int i from hy); obtain ⟨t, rfl⟩ := rv; simp only [deq]; exact ⟨RcAt.str_int a ta i t, EqAt.str_int a ta i t⟩
      | str i => cases (show y = .str i from hy); obtain ⟨t, rfl⟩ := rv; simp only [deq]; exact ⟨RcAt.str_str a ta i t, EqAt.str_str a ta i t⟩
      | tup ds => obtain ⟨a', xs, rfl, ha, _⟩ := hy; cases rv; obtain ⟨its, r, ht⟩ := I.tupK ha; simp only [deq]; exact ⟨RcAt.str_tuple a ta ht hu', EqAt.str_tuple a ta ht hu'⟩
      | lst ds => obtain ⟨a', xs, rfl, ha, _⟩ := hy; cases rv; obtain ⟨its, r, ht⟩ := I.lstK ha; simp only [deq]; exact ⟨RcAt.str_list a ta ht hu', EqAt.str_list a ta ht hu'⟩
  | succ n ih =>
    intro A d d' x y u v hd hu hx hy ru rv
    have hu' : A.units < cLine := by omega
    have hin : A.in1.units + n < cLine := by show A.units + 1 + n < cLine; omega
    by_cases h0 : d.deep ≤ n
    · exact ih A d d' x y u v h0 (by omega) hx hy ru rv
    cases d with
    | tup ds =>
      have hds : D.deeps ds ≤ n := by simp [D.deep] at hd; exact hd
      obtain ⟨a, xs, rfl, ha, hs⟩ := id hx
      cases ru
      obtain ⟨its, r, ht⟩ := I.tupK ha
      cases d' with
      | non => cases (show y = .non from hy); cases rv; simp only [deq]; exact ⟨RcAt.tuple_none ht hu', EqAt.tuple_none ht hu'⟩
      | bl b => cases (show y = .bl b from hy); cases rv; simp only [deq]; exact ⟨RcAt.tuple_bool b ht hu', EqAt.tuple_bool b ht hu'⟩
      | int i => cases (show y = .int i from hy); obtain ⟨t, rfl⟩ := rv; simp only [deq]; exact ⟨RcAt.tuple_int i t ht hu', EqAt.tuple_int i t ht hu'⟩
      | str i => cases (show y = .str i from hy); obtain ⟨t, rfl⟩ := rv; simp only [deq]; exact ⟨RcAt.tuple_str i t ht hu', EqAt.tuple_str i t ht hu'⟩
      | lst ds' => obtain ⟨a', xs', rfl, ha', _⟩ := hy; cases rv; obtain ⟨its', r', ht'⟩ := I.lstK ha'; simp only [deq]; exact ⟨RcAt.tuple_list ht ht' hu', EqAt.tuple_list ht ht' hu'⟩
      | tup ds' =>
        obtain ⟨a', xs', rfl, ha', hs'⟩ := id hy
        cases rv
        obtain ⟨its', r', ht'⟩ := I.tupK ha'
        have rc : RcAt A s (.ref a) (.ref a') (deq (.tup ds) (.tup ds')) := by
          have z := RcAt.tuples (A := A) (s := s) (e := fun j => deq (ds.getD j .non) (ds'.getD j .non)) ht ht' hu' (seq_itemsK r r' hs hs' fun j e e' x y u v h1 h2 h3 h4 h5 h6 => (ih A.in1 e e' x y u v (Nat.le_trans (deep_mem h1) hds) hin h3 h4 h5 h6).2)
          have e1 : its.toArray.size = ds.length := by rw [List.size_toArray, ← r.length, hs.length]
          have e2 : its'.toArray.size = ds'.length := by rw [List.size_toArray, ← r'.length, hs'.length]
          rw [e1, e2, deqs_range] at z
          simp only [deq]
          exact z
        refine ⟨rc, ?_⟩
        by_cases hne : a = a'
        · subst hne
          have : D.tup ds = D.tup ds' := RepK.inj I hx hy
          rw [← this, deq_refl]
          exact EqAt.same _
        · exact EqAt.of_refs hne rc
    | lst ds =>
      have hds : D.deeps ds ≤ n := by simp [D.deep] at hd; exact hd
      obtain ⟨a, xs, rfl, ha, hs⟩ := id hx
      cases ru
      obtain ⟨its, r, ht⟩ := I.lstK ha
      cases d' with
      | non => cases (show y = .non from hy); cases rv; simp only [deq]; exact ⟨RcAt.list_none ht hu', EqAt.list_none ht hu'⟩
      | bl b => cases (show y = .bl b from hy); cases rv; simp only [deq]; exact ⟨RcAt.list_bool b ht hu', EqAt.list_bool b ht hu'⟩
      | int i => cases (show y = .int i from hy); obtain ⟨t, rfl⟩ := rv; simp only [deq]; exact ⟨RcAt.list_int i t ht hu', EqAt.list_int i t ht hu'⟩
      | str i => cases (show y = .str i from hy); obtain ⟨t, rfl⟩ := rv; simp only [deq]; exact ⟨RcAt.list_str i t ht hu', EqAt.list_str i t ht hu'⟩
      | tup ds' => obtain ⟨a', xs', rfl, ha', _⟩ := hy; cases rv; obtain ⟨its', r', ht'⟩ := I.tupK ha'; simp only [deq]; exact ⟨RcAt.list_tuple ht ht' hu', EqAt.list_tuple ht ht' hu'⟩
      | lst ds' =>
        obtain ⟨a', xs', rfl, ha', hs'⟩ := id hy
        cases rv
        obtain ⟨its', r', ht'⟩ := I.lstK ha'
        have e1 : its.toArray.size = ds.length := by rw [List.size_toArray, ← r.length, hs.length]
        have e2 : its'.toArray.size = ds'.length := by rw [List.size_toArray, ← r'.length, hs'.length]
        have rc : RcAt A s (.ref a) (.ref a') (deq (.lst ds) (.lst ds')) := by
          simp only [deq]
          by_cases hl : ds.length = ds'.length
          · have z := RcAt.lists (A := A) (s := s) (e := fun j => deq (ds.getD j .non) (ds'.getD j .non)) ht ht' (by rw [e1, e2]; exact hl) hu' (seq_itemsK r r' hs hs' fun j e e' x y u v h1 h2 h3 h4 h5 h6 => (ih A.in1 e e' x y u v (Nat.le_trans (deep_mem h1) hds) hin h3 h4 h5 h6).2)
            have q := deqs_range (ds := ds) (ds' := ds')
            rw [← hl, Nat.min_self, beq_self_eq_true, Bool.and_true] at q
            rw [e1, q] at z
            exact z
          · have z := RcAt.lists_lengths (A := A) (s := s) ht ht' (by rw [e1, e2]; simpa using hl) hu'
            have q := deqs_range (ds := ds) (ds' := ds')
            rw [show (ds.length == ds'.length) = false from beq_eq_false_iff_ne.mpr hl, Bool.and_false] at q
            rw [← q]
            exact z
        refine ⟨rc, ?_⟩
        by_cases hne : a = a'
        · subst hne
          have : D.lst ds = D.lst ds' := RepK.inj I hx hy
          rw [← this, deq_refl]
          exact EqAt.same _
        · exact EqAt.of_refs hne rc
    | _ => exact absurd (by simp [D.deep]) h0

def rEqK (K : PySem.W.Frag) : R2 := fun x y H Q => ∃ d d', RepK K H d x ∧ RepK K H d' y ∧ d.deep ≤ 150 ∧ Q (.bl (deq d d')) H
theorem op_eqK (hu : X.A.units + 150 < cLine) : OpR X (compareOp .Eq) (rEqK X.K) := by
  intro pins s σ H x y v u Q I rx ry h
  obtain ⟨d, d', h1, h2, h3, q⟩ := h
  exact (rc_and_eqK I 150 X.A d d' x y v u h3 hu h1 h2 rx ry).1 X.prog X.w X.xe _ ⟨.bl _, H, I, rfl, q⟩
theorem rc_neK (I : Inv X pins σ H s) (A : Around) (d d' : D) (x y : V) (u v : Value) (hd : d.deep ≤ 150) (hu : A.units + 151 < cLine) (hx : RepK X.K H d x) (hy : RepK X.K H d' y) (ru : RelV x u) (rv : RelV y v) : RcNeAt A s u v (!deq d d') := by
  have hu' : A.units < cLine := by omega
  have hin : A.in1.units + 150 < cLine := by show A.units + 1 + 150 < cLine; omega
  cases d with
  | non =>
    cases (show x = .non from hx); cases ru
    cases d' with
    | non => cases (show y = .non from hy); cases rv; simp only [deq]; exact RcNeAt.none_none
    | bl b2 => cases (show y = .bl b2 from hy); cases rv; simp only [deq]; exact RcNeAt.none_bool b2
    | int b2 => cases (show y = .int b2 from hy); obtain ⟨t2, rfl⟩ := rv; simp only [deq]; exact RcNeAt.none_int b2 t2
    | str b2 => cases (show y = .str b2 from hy); obtain ⟨t2, rfl⟩ := rv; simp only [deq]; exact RcNeAt.none_str b2 t2
    | tup ds2 => obtain ⟨a2, xs2, rfl, ha2, hs2⟩ := id hy; cases rv; obtain ⟨its2, r2, ht2⟩ := I.tupK ha2; simp only [deq]; exact RcNeAt.none_tuple ht2 hu'
    | lst ds2 => obtain ⟨a2, xs2, rfl, ha2, hs2⟩ := id hy; cases rv; obtain ⟨its2, r2, ht2⟩ := I.lstK ha2; simp only [deq]; exact RcNeAt.none_list ht2 hu'
  | bl b1 =>
    cases (show x = .bl b1 from hx); cases ru
    cases d' with
    | non => cases (show y = .non from hy); cases rv; simp only [deq]; exact RcNeAt.bool_none b1
    | bl b2 => cases (show y = .bl b2 from hy); cases rv; simp only [deq]; exact RcNeAt.bool_bool b1 b2
    | int b2 => cases (show y = .int b2 from hy); obtain ⟨t2, rfl⟩ := rv; simp only [deq]; exact RcNeAt.bool_int b1 b2 t2
    | str b2 => cases (show y = .str b2 from hy); obtain ⟨t2, rfl⟩ := rv; simp only [deq]; exact RcNeAt.bool_str b1 b2 t2
    | tup ds2 => obtain ⟨a2, xs2, rfl, ha2, hs2⟩ := id hy; cases rv; obtain ⟨its2, r2, ht2⟩ := I.tupK ha2; simp only [deq]; exact RcNeAt.bool_tuple b1 ht2 hu'
    | lst ds2 => obtain ⟨a2, xs2, rfl, ha2, hs2⟩ := id hy; cases rv; obtain ⟨its2, r2, ht2⟩ := I.lstK ha2; simp only [deq]; exact RcNeAt.bool_list b1 ht2 hu'
  | int b1 =>
    cases (show x = .int b1 from hx); obtain ⟨t1, rfl⟩ := ru
    cases d' with
    | non => cases (show y = .non from hy); cases rv; simp only [deq]; exact RcNeAt.int_none b1 t1
    | bl b2 => cases (show y = .bl b2 from hy); cases rv; simp only [deq]; exact RcNeAt.int_bool b1 t1 b2
    | int b2 => cases (show y = .int b2 from hy); obtain ⟨t2, rfl⟩ := rv; simp only [deq]; exact RcNeAt.int_int b1 t1 b2 t2
    | str b2 => cases (show y = .str b2 from hy); obtain ⟨t2, rfl⟩ := rv; simp only [deq]; exact RcNeAt.int_str b1 t1 b2 t2
    | tup ds2 => obtain ⟨a2, xs2, rfl, ha2, hs2⟩ := id hy; cases rv; obtain ⟨its2, r2, ht2⟩ := I.tupK ha2; simp only [deq]; exact RcNeAt.int_tuple b1 t1 ht2 hu'
    | lst ds2 => obtain ⟨a2, xs2, rfl, ha2, hs2⟩ := id hy; cases rv; obtain ⟨its2, r2, ht2⟩ := I.lstK ha2; simp only [deq]; exact RcNeAt.int_list b1 t1 ht2 hu'
  | str b1 =>
    cases (show x = .str b1 from hx); obtain ⟨t1, rfl⟩ := ru
    cases d' with
    | non => cases (show y = .non from hy); cases rv; simp only [deq]; exact RcNeAt.str_none b1 t1
    | bl b2 => cases (show y = .bl b2 from hy); cases rv; simp only [deq]; exact RcNeAt.str_bool b1 t1 b2
    | int b2 => cases (show y = .int b2 from hy); obtain ⟨t2, rfl⟩ := rv; simp only [deq]; exact RcNeAt.str_int b1 t1 b2 t2
    | str b2 => cases (show y = .str b2 from hy); obtain ⟨t2, rfl⟩ := rv; simp only [deq]; exact RcNeAt.str_str b1 t1 b2 t2
    | tup ds2 => obtain ⟨a2, xs2, rfl, ha2, hs2⟩ := id hy; cases rv; obtain ⟨its2, r2, ht2⟩ := I.tupK ha2; simp only [deq]; exact RcNeAt.str_tuple b1 t1 ht2 hu'
    | lst ds2 => obtain ⟨a2, xs2, rfl, ha2, hs2⟩ := id hy; cases rv; obtain ⟨its2, r2, ht2⟩ := I.lstK ha2; simp only [deq]; exact RcNeAt.str_list b1 t1 ht2 hu'
  | tup ds1 =>
    obtain ⟨a1, xs1, rfl, ha1, hs1⟩ := id hx; cases ru; obtain ⟨its1, r1, ht1⟩ := I.tupK ha1
    cases d' with
    | non => cases (show y = .non from hy); cases rv; simp only [deq]; exact RcNeAt.tuple_none ht1 hu'
    | bl b2 => cases (show y = .bl b2 from hy); cases rv; simp only [deq]; exact RcNeAt.tuple_bool b2 ht1 hu'
    | int b2 => cases (show y = .int b2 from hy); obtain ⟨t2, rfl⟩ := rv; simp only [deq]; exact RcNeAt.tuple_int b2 t2 ht1 hu'
    | str b2 => cases (show y = .str b2 from hy); obtain ⟨t2, rfl⟩ := rv; simp only [deq]; exact RcNeAt.tuple_str b2 t2 ht1 hu'
    | tup ds2 =>
      obtain ⟨a2, xs2, rfl, ha2, hs2⟩ := id hy; cases rv; obtain ⟨its2, r2, ht2⟩ := I.tupK ha2
      have hds : D.deeps ds1 ≤ 150 := by have := hd; simp [D.deep] at this; omega
      have z := RcNeAt.tuples (A := A) (s := s) (e := fun j => deq (ds1.getD j .non) (ds2.getD j .non)) ht1 ht2 hu' (seq_itemsK r1 r2 hs1 hs2 fun j e e' x y u v h1 h2 h3 h4 h5 h6 => (rc_and_eqK I 150 A.in1 e e' x y u v (Nat.le_trans (deep_mem h1) hds) hin h3 h4 h5 h6).2)
      have e1 : its1.toArray.size = ds1.length := by rw [List.size_toArray, ← r1.length, hs1.length]
      have e2 : its2.toArray.size = ds2.length := by rw [List.size_toArray, ← r2.length, hs2.length]
      rw [e1, e2, deqs_range] at z
      simp only [deq]
      exact z
    | lst ds2 => obtain ⟨a2, xs2, rfl, ha2, hs2⟩ := id hy; cases rv; obtain ⟨its2, r2, ht2⟩ := I.lstK ha2; simp only [deq]; exact RcNeAt.tuple_list ht1 ht2 hu'
  | lst ds1 =>
    obtain ⟨a1, xs1, rfl, ha1, hs1⟩ := id hx; cases ru; obtain ⟨its1, r1, ht1⟩ := I.lstK ha1
    cases d' with
    | non => cases (show y = .non from hy); cases rv; simp only [deq]; exact RcNeAt.list_none ht1 hu'
    | bl b2 => cases (show y = .bl b2 from hy); cases rv; simp only [deq]; exact RcNeAt.list_bool b2 ht1 hu'
    | int b2 => cases (show y = .int b2 from hy); obtain ⟨t2, rfl⟩ := rv; simp only [deq]; exact RcNeAt.list_int b2 t2 ht1 hu'
    | str b2 => cases (show y = .str b2 from hy); obtain ⟨t2, rfl⟩ := rv; simp only [deq]; exact RcNeAt.list_str b2 t2 ht1 hu'
    | tup ds2 => obtain ⟨a2, xs2, rfl, ha2, hs2⟩ := id hy; cases rv; obtain ⟨its2, r2, ht2⟩ := I.tupK ha2; simp only [deq]; exact RcNeAt.list_tuple ht1 ht2 hu'
    | lst ds2 =>
      obtain ⟨a2, xs2, rfl, ha2, hs2⟩ := id hy; cases rv; obtain ⟨its2, r2, ht2⟩ := I.lstK ha2
      have hds : D.deeps ds1 ≤ 150 := by have := hd; simp [D.deep] at this; omega
      have e1 : its1.toArray.size = ds1.length := by rw [List.size_toArray, ← r1.length, hs1.length]
      have e2 : its2.toArray.size = ds2.length := by rw [List.size_toArray, ← r2.length, hs2.length]
      simp only [deq]
      by_cases hl : ds1.length = ds2.length
      · have z := RcNeAt.lists (A := A) (s := s) (e := fun j => deq (ds1.getD j .non) (ds2.getD j .non)) ht1 ht2 (by rw [e1, e2]; exact hl) hu' (seq_itemsK r1 r2 hs1 hs2 fun j e e' x y u v h1 h2 h3 h4 h5 h6 => (rc_and_eqK I 150 A.in1 e e' x y u v (Nat.le_trans (deep_mem h1) hds) hin h3 h4 h5 h6).2)
        have q := deqs_range (ds := ds1) (ds' := ds2)
        rw [← hl, Nat.min_self, beq_self_eq_true, Bool.and_true] at q
        rw [e1, q] at z
        exact z
      · have z := RcNeAt.lists_lengths (A := A) (s := s) ht1 ht2 (by rw [e1, e2]; simpa using hl) hu'
        have q := deqs_range (ds := ds1) (ds' := ds2)
        rw [show (ds1.length == ds2.length) = false from beq_eq_false_iff_ne.mpr hl, Bool.and_false] at q
        rw [← q]
        exact z
def rNeK (K : PySem.W.Frag) : R2 := fun x y H Q => ∃ d d', RepK K H d x ∧ RepK K H d' y ∧ d.deep ≤ 150 ∧ Q (.bl (!deq d d')) H
theorem op_neK (hu : X.A.units + 151 < cLine) : OpR X (compareOp .NotEq) (rNeK X.K) := by
  intro pins s σ H x y v u Q I rx ry h
  obtain ⟨d, d', h1, h2, h3, q⟩ := h
  exact rc_neK I X.A d d' x y v u h3 hu h1 h2 rx ry X.prog X.w X.xe _ ⟨.bl _, H, I, rfl, q⟩
noncomputable def eOfK (K : PySem.W.Frag) (H : Hp) (d : D) (y : Value) : Bool := @decide (∃ (d' : D) (v' : V), RelV v' y ∧ RepK K H d' v' ∧ deq d' d = true) (Classical.propDecidable _)
theorem eOfK_eq (I : Inv X pins σ H s) {d d' : D} {v' : V} {y : Value} (r : RelV v' y) (h : RepK X.K H d' v') : eOfK X.K H d y = deq d' d := by
  unfold eOfK
  cases e : deq d' d with
  | true => exact @decide_eq_true _ (Classical.propDecidable _) ⟨d', v', r, h, e⟩
  | false =>
    refine @decide_eq_false _ (Classical.propDecidable _) ?_
    rintro ⟨d2, v2, r2, h2, e2⟩
    rw [r2.inj r] at h2
    rw [RepK.inj I h2 h, e] at e2
    cases e2
theorem any_eOfK (I : Inv X pins σ H s) {d : D} : ∀ {ds : List D} {xs : List V} {us : List Value}, Vals xs us → RepKs X.K H ds xs → us.any (eOfK X.K H d) = ds.any fun e => deq e d
  | [], xs, us, r, h => by cases (show xs = [] from h); cases r; rfl
  | e :: ds, xs, us, r, h => by
    obtain ⟨x, xr, rfl, h1, h2⟩ := h
    cases r with
    | cons r1 r2 => rw [List.any_cons, List.any_cons, eOfK_eq I r1 h1, any_eOfK I r2 h2]
theorem mem_eOfK (I : Inv X pins σ H s) {A : Around} (hu : A.units + 150 < cLine) {d : D} {x : V} {v : Value} (rx : RelV x v) (hx : RepK X.K H d x) : ∀ {ds : List D} {xs : List V} {us : List Value}, Vals xs us → RepKs X.K H ds xs → D.deeps ds ≤ 150 → ∀ u ∈ us, EqAt A s u v (eOfK X.K H d u)
  | [], xs, us, r, h, _, u, hm => by cases (show xs = [] from h); cases r; cases hm
  | e :: ds, xs, us, r, h, hd, u, hm => by
    obtain ⟨y, xr, rfl, h1, h2⟩ := h
    have hd' : e.deep ≤ 150 ∧ D.deeps ds ≤ 150 := by simp [D.deeps] at hd; omega
    cases r with
    | cons r1 r2 =>
      rcases List.mem_cons.mp hm with rfl | hm
      · rw [eOfK_eq I r1 h1]
        exact (rc_and_eqK I 150 A e d y x u v hd'.1 hu h1 hx r1 rx).2
      · exact mem_eOfK I hu rx hx r2 h2 hd'.2 u hm
def rInK (K : PySem.W.Frag) (neg : Bool) : R2 := fun x y H Q => ∃ (p : Addr) (xs : List V) (ds : List D) (d : D), y = .ref p ∧ (SqL K H p xs ∨ SqT K H p xs) ∧ RepKs K H ds xs ∧ RepK K H d x ∧ D.deeps ds ≤ 150 ∧ Q (.bl (if neg then !(ds.any fun e => deq e d) else ds.any fun e => deq e d)) H
theorem op_inK (hu : X.A.units + 151 < cLine) : OpR X (compareOp .In) (rInK X.K false) := by
  intro pins s σ H x y v u Q I rx ry h
  obtain ⟨p, xs, ds, d, rfl, hq, hs, hx, hd, q⟩ := h
  cases ry
  have hu' : X.A.in1.units + 150 < cLine := by show X.A.units + 1 + 150 < cLine; omega
  rcases hq with hq | hq
  · obtain ⟨its, r, pl⟩ := I.lstK hq
    refine SeqAt.in_listAt (eOfK X.K H d) pl (fun w hw => mem_eOfK I hu' rx hx r hs hd w (by simpa using hw)) ⟨.bl _, H, I, rfl, ?_⟩
    rw [show its.toArray.any (eOfK X.K H d) = its.any (eOfK X.K H d) by simp, any_eOfK I r hs]
    exact q
  · obtain ⟨its, r, pl⟩ := I.tupK hq
    refine SeqAt.in_tupleAt (eOfK X.K H d) pl (fun w hw => mem_eOfK I hu' rx hx r hs hd w (by simpa using hw)) ⟨.bl _, H, I, rfl, ?_⟩
    rw [show its.toArray.any (eOfK X.K H d) = its.any (eOfK X.K H d) by simp, any_eOfK I r hs]
    exact q
theorem op_notInK (hu : X.A.units + 151 < cLine) : OpR X (compareOp .NotIn) (rInK X.K true) := by
  intro pins s σ H x y v u Q I rx ry h
  obtain ⟨p, xs, ds, d, rfl, hq, hs, hx, hd, q⟩ := h
  cases ry
  have hu' : X.A.in1.units + 150 < cLine := by show X.A.units + 1 + 150 < cLine; omega
  rcases hq with hq | hq
  · obtain ⟨its, r, pl⟩ := I.lstK hq
    refine SeqAt.notIn_listAt (eOfK X.K H d) pl (fun w hw => mem_eOfK I hu' rx hx r hs hd w (by simpa using hw)) ⟨.bl _, H, I, rfl, ?_⟩
    rw [show its.toArray.any (eOfK X.K H d) = its.any (eOfK X.K H d) by simp, any_eOfK I r hs]
    exact q
  · obtain ⟨its, r, pl⟩ := I.tupK hq
    refine SeqAt.notIn_tupleAt (eOfK X.K H d) pl (fun w hw => mem_eOfK I hu' rx hx r hs hd w (by simpa using hw)) ⟨.bl _, H, I, rfl, ?_⟩
    rw [show its.toArray.any (eOfK X.K H d) = its.any (eOfK X.K H d) by simp, any_eOfK I r hs]
    exact q
end
end L2
set_option Elab.async false
set_option linter.all false
set_option maxRecDepth 100000
namespace L2
open PySem PySem.Spec PyProof.Rows
mutual
noncomputable def toDB (f : Nat → Option D) : M → Option D
  | .non => some .non
  | .bl b => some (.bl b)
  | .int i => some (.int i)
  | .str x => some (.str x)
  | .tup xs => (toDBs f xs).map .tup
  | .lst xs => (toDBs f xs).map .lst
  | .ref k => f k
  | .scr ns => some (.lst (ns.map D.int))
  | _ => none
noncomputable def toDBs (f : Nat → Option D) : List M → Option (List D)
  | [] => some []
  | x :: xs => (toDB f x).bind fun d => (toDBs f xs).map (d :: ·)
end
noncomputable def lookD (h : HpM) : Nat → Nat → Option D
  | 0, _ => none
  | q + 1, k => match h[k]? with | some (.lst xs) => (toDBs (lookD h q) xs).map .lst | _ => none
noncomputable def toD (h : HpM) : M → Option D := toDB (lookD h 20)
noncomputable def toDs (h : HpM) : List M → Option (List D) := toDBs (lookD h 20)
theorem RepKs.ints {K : PySem.W.Frag} {H : Hp} : ∀ {ns : List Int}, RepKs K H (ns.map D.int) (ns.map V.int)
  | [] => rfl
  | n :: ns => ⟨_, _, rfl, rfl, RepKs.ints⟩
mutual
theorem toDB_rep {K : PySem.W.Frag} {α : Pl} {H : Hp} {f : Nat → Option D} (hf : ∀ k d v, f k = some d → RepA K α H (.ref k) v → RepK K H d v) : ∀ {m : M} {d : D} {v : V}, toDB f m = some d → RepA K α H m v → RepK K H d v
  | .non, _, _, e, r => by cases e; exact r
  | .bl b, _, _, e, r => by cases e; exact r
  | .int b, _, _, e, r => by cases e; exact r
  | .str b, _, _, e, r => by cases e; exact r
  | .tup xs, _, _, e, r => by
    obtain ⟨ds, e1, e2⟩ := Option.map_eq_some_iff.mp e
    subst e2
    obtain ⟨a, vs, e3, t, rs⟩ := r
    exact ⟨a, vs, e3, t.sq, toDBs_rep hf e1 rs⟩
  | .lst xs, _, _, e, r => by
    obtain ⟨ds, e1, e2⟩ := Option.map_eq_some_iff.mp e
    subst e2
    obtain ⟨a, vs, e3, n, t, rs⟩ := r
    exact ⟨a, vs, e3, .of t, toDBs_rep hf e1 rs⟩
  | .ref k, _, _, e, r => hf k _ _ e r
  | .scr ns, _, _, e, r => by
    cases e
    obtain ⟨a, e3, t⟩ := r
    exact ⟨a, _, e3, t.sq, RepKs.ints⟩
  | .ty _, _, _, e, _ => by cases e
  | .dct _ _, _, _, e, _ => by cases e
theorem toDBs_rep {K : PySem.W.Frag} {α : Pl} {H : Hp} {f : Nat → Option D} (hf : ∀ k d v, f k = some d → RepA K α H (.ref k) v → RepK K H d v) : ∀ {m : List M} {d : List D} {v : List V}, toDBs f m = some d → RepAs K α H m v → RepKs K H d v
  | [], _, _, e, r => by cases e; exact r
  | x :: xs, _, _, e, r => by
    obtain ⟨d, e1, e2⟩ := Option.bind_eq_some_iff.mp e
    obtain ⟨ds, e3, e4⟩ := Option.map_eq_some_iff.mp e2
    subst e4
    obtain ⟨v, vs, rfl, h1, h2⟩ := r
    exact ⟨v, vs, rfl, toDB_rep hf e1 h1, toDBs_rep hf e3 h2⟩
end
theorem lookD_rep {K : PySem.W.Frag} {α : Pl} {h : HpM} {H : Hp} (hr : Rl K α h H) : ∀ (q k : Nat) (d : D) (v : V), lookD h q k = some d → RepA K α H (.ref k) v → RepK K H d v
  | 0, _, _, _, e, _ => by cases e
  | q + 1, k, d, v, e, ⟨a, ha, e2⟩ => by
    unfold lookD at e
    split at e
    · rename_i xs hx
      obtain ⟨ds, e3, e4⟩ := Option.map_eq_some_iff.mp e
      subst e4
      obtain ⟨vs, hv, rs⟩ := hr.obj k a _ ha hx
      exact ⟨a, vs, e2, .of hv, toDBs_rep (fun k d v => lookD_rep hr q k d v) e3 rs⟩
    · cases e
theorem toD_rep {K : PySem.W.Frag} {α : Pl} {h : HpM} {H : Hp} {m : M} {d : D} {v : V} (hr : Rl K α h H) (e : toD h m = some d) (r : RepA K α H m v) : RepK K H d v := toDB_rep (fun k d v => lookD_rep hr 20 k d v) e r
theorem toDs_rep {K : PySem.W.Frag} {α : Pl} {h : HpM} {H : Hp} {m : List M} {d : List D} {v : List V} (hr : Rl K α h H) (e : toDs h m = some d) (r : RepAs K α H m v) : RepKs K H d v := toDBs_rep (fun k d v => lookD_rep hr 20 k d v) e r
noncomputable def opEq (x y : M) (h : HpM) : Option M := (toD h x).bind fun d => (toD h y).bind fun d' => if d.deep ≤ 150 then some (.bl (deq d d')) else none
noncomputable def opNe (x y : M) (h : HpM) : Option M := (toD h x).bind fun d => (toD h y).bind fun d' => if d.deep ≤ 150 then some (.bl (!deq d d')) else none
section
variable {X : Cx} {K : PySem.W.Frag}
theorem fm_eq : OpM K (rEqK K) opEq := by
  intro α h H x y d u v Q hr rx ry e k
  obtain ⟨d1, e1, e⟩ := Option.bind_eq_some_iff.mp e
  obtain ⟨d2, e2, e⟩ := Option.bind_eq_some_iff.mp e
  split at e
  · rename_i hd
    cases e
    exact ⟨d1, d2, toD_rep hr e1 rx, toD_rep hr e2 ry, hd, k H _ (Same.refl _) rfl⟩
  · cases e
theorem fm_ne : OpM K (rNeK K) opNe := by
  intro α h H x y d u v Q hr rx ry e k
  obtain ⟨d1, e1, e⟩ := Option.bind_eq_some_iff.mp e
  obtain ⟨d2, e2, e⟩ := Option.bind_eq_some_iff.mp e
  split at e
  · rename_i hd
    cases e
    exact ⟨d1, d2, toD_rep hr e1 rx, toD_rep hr e2 ry, hd, k H _ (Same.refl _) rfl⟩
  · cases e
noncomputable def subIn (i j : Str) : Bool := !(Builtin.Str.occurrences j i 0 j.length 1).isEmpty
theorem subIn_sign (c : Nat) (z : Str) : subIn ⟨#[c]⟩ z = z.cps.toList.contains c := by
  unfold subIn
  rw [Bool.eq_iff_iff, StrLaws.found_iff]
  constructor
  · rintro ⟨i, h⟩
    have := (StrLaws.subAt_one z c i).mp h
    rw [List.contains_iff_mem]
    exact List.mem_of_getElem? this
  · intro h
    rw [List.contains_iff_mem] at h
    obtain ⟨i, hi⟩ := List.getElem?_of_mem h
    exact ⟨i, (StrLaws.subAt_one z c i).mpr hi⟩
noncomputable def anyD (x : M) (xs : List M) (h : HpM) (f : Bool → M) : Option M := (toDs h xs).bind fun ds => (toD h x).bind fun d => if D.deeps ds ≤ 150 then some (f (ds.any fun e => deq e d)) else none
noncomputable def opIn (x y : M) (h : HpM) : Option M := match dctOf h y with
  | some kvs => (keyM x).map fun k => .bl (valM kvs k).isSome
  | none => (match y with
  | .str j => (match x with | .str i => some (.bl (subIn i j)) | _ => none)
  | .tup xs => anyD x xs h fun b => .bl b
  | y => (seqR h y).bind fun xs => anyD x xs h fun b => .bl b)
noncomputable def opNotIn (x y : M) (h : HpM) : Option M := match dctOf h y with
  | some kvs => (keyM x).map fun k => .bl (!(valM kvs k).isSome)
  | none => (match y with
  | .str j => (match x with | .str i => some (.bl (!subIn i j)) | _ => none)
  | .tup xs => anyD x xs h fun b => .bl (!b)
  | y => (seqR h y).bind fun xs => anyD x xs h fun b => .bl (!b))
def rInDct : R2 := fun x y H Q => ∃ a o, y = .ref a ∧ DGet H a x o ∧ Q (.bl o.isSome) H
def rNotInDct : R2 := fun x y H Q => ∃ a o, y = .ref a ∧ DGet H a x o ∧ Q (.bl (!o.isSome)) H
theorem op_inDct (hu : X.A.units + 1 < cLine) : OpR X (compareOp .In) rInDct := by
  intro pins s σ H x y v u Q I rx ry q
  obtain ⟨a, o, rfl, g, q⟩ := q
  cases (show u = .ref a from ry)
  exact d_in hu I g rx fun s' I' => ⟨.bl o.isSome, H, I', rfl, q⟩
theorem op_notInDct (hu : X.A.units + 1 < cLine) : OpR X (compareOp .NotIn) rNotInDct := by
  intro pins s σ H x y v u Q I rx ry q
  obtain ⟨a, o, rfl, g, q⟩ := q
  cases (show u = .ref a from ry)
  exact d_notIn hu I g rx fun s' I' => ⟨.bl (!o.isSome), H, I', rfl, q⟩
def rInM (K : PySem.W.Frag) : R2 := fun x y H Q => rInDct x y H Q ∨ rInK K false x y H Q ∨ ∃ i j, x = .str i ∧ y = .str j ∧ Q (.bl (!(Builtin.Str.occurrences j i 0 j.length 1).isEmpty)) H
def rNotInM (K : PySem.W.Frag) : R2 := fun x y H Q => rNotInDct x y H Q ∨ rInK K true x y H Q ∨ ∃ i j, x = .str i ∧ y = .str j ∧ Q (.bl (!(!(Builtin.Str.occurrences j i 0 j.length 1).isEmpty))) H
theorem op_inM (hu : X.A.units + 151 < cLine) : OpR X (compareOp .In) (rInM X.K) := (op_inDct (by omega)).or ((op_inK hu).or op_in_str)
theorem op_notInM (hu : X.A.units + 151 < cLine) : OpR X (compareOp .NotIn) (rNotInM X.K) := (op_notInDct (by omega)).or ((op_notInK hu).or op_notIn_str)
theorem anyD_inv {x : M} {xs : List M} {h : HpM} {f : Bool → M} {d : M} (e : anyD x xs h f = some d) : ∃ ds dx, toDs h xs = some ds ∧ toD h x = some dx ∧ D.deeps ds ≤ 150 ∧ d = f (ds.any fun e => deq e dx) := by
  obtain ⟨ds, e1, e⟩ := Option.bind_eq_some_iff.mp e
  obtain ⟨dx, e2, e⟩ := Option.bind_eq_some_iff.mp e
  split at e
  · rename_i hd; cases e; exact ⟨ds, dx, e1, e2, hd, rfl⟩
  · cases e
theorem fm_in : OpM K (rInM K) opIn := by
  intro α h H x y d u v Q hr rx ry e k
  unfold opIn at e
  split at e
  · rename_i kvs hk
    obtain ⟨key, e1, e2⟩ := Option.map_eq_some_iff.mp e
    subst e2
    obtain ⟨a, ws, rfl, ha, ek, rs⟩ := dctOf_rep hr ry hk
    cases (keyM_rep e1 rx)
    exact .inl ⟨a, _, rfl, DGet.k ha, by rw [(valM_rep key ek rs).1]; exact k H _ (Same.refl _) rfl⟩
  refine .inr ?_
  split at e
  · split at e
    · cases e
      exact .inr ⟨_, _, rx, ry, k H _ (Same.refl _) rfl⟩
    · cases e
  · obtain ⟨ds, dx, e1, e2, hd, rfl⟩ := anyD_inv e
    obtain ⟨a, vs, rfl, t, rs⟩ := ry
    exact .inl ⟨a, vs, ds, dx, rfl, .inr t.sq, toDs_rep hr e1 rs, toD_rep hr e2 rx, hd, k H _ (Same.refl _) rfl⟩
  · obtain ⟨xs, e0, e⟩ := Option.bind_eq_some_iff.mp e
    obtain ⟨ds, dx, e1, e2, hd, rfl⟩ := anyD_inv e
    obtain ⟨a, vs, rfl, t, rs⟩ := seqR_rep hr ry e0
    exact .inl ⟨a, vs, ds, dx, rfl, .inl t, toDs_rep hr e1 rs, toD_rep hr e2 rx, hd, k H _ (Same.refl _) rfl⟩
theorem fm_notIn : OpM K (rNotInM K) opNotIn := by
  intro α h H x y d u v Q hr rx ry e k
  unfold opNotIn at e
  split at e
  · rename_i kvs hk
    obtain ⟨key, e1, e2⟩ := Option.map_eq_some_iff.mp e
    subst e2
    obtain ⟨a, ws, rfl, ha, ek, rs⟩ := dctOf_rep hr ry hk
    cases (keyM_rep e1 rx)
    exact .inl ⟨a, _, rfl, DGet.k ha, by rw [(valM_rep key ek rs).1]; exact k H _ (Same.refl _) rfl⟩
  refine .inr ?_
  split at e
  · split at e
    · cases e
      exact .inr ⟨_, _, rx, ry, k H _ (Same.refl _) rfl⟩
    · cases e
  · obtain ⟨ds, dx, e1, e2, hd, rfl⟩ := anyD_inv e
    obtain ⟨a, vs, rfl, t, rs⟩ := ry
    exact .inl ⟨a, vs, ds, dx, rfl, .inr t.sq, toDs_rep hr e1 rs, toD_rep hr e2 rx, hd, k H _ (Same.refl _) rfl⟩
  · obtain ⟨xs, e0, e⟩ := Option.bind_eq_some_iff.mp e
    obtain ⟨ds, dx, e1, e2, hd, rfl⟩ := anyD_inv e
    obtain ⟨a, vs, rfl, t, rs⟩ := seqR_rep hr ry e0
    exact .inl ⟨a, vs, ds, dx, rfl, .inl t, toDs_rep hr e1 rs, toD_rep hr e2 rx, hd, k H _ (Same.refl _) rfl⟩
noncomputable def bLen (xs : List M) (h : HpM) : Option M := match xs with
  | [.str z] => if z.length ≤ 16777216 then some (.int z.length) else none
  | [.tup ys] => some (.int ys.length)
  | [.dct ks ys] => some (.int ks.length)
  | [x] => (match seqR h x with
    | some ys => some (.int ys.length)
    | none => (dctOf h x).map fun kvs => .int kvs.length)
  | _ => none
def rLenM (K : PySem.W.Frag) : List V → Hp → VK → Prop := fun xs H Q => (∃ z, xs = [.str z] ∧ z.length ≤ sizeLine ∧ Q (.int z.length) H) ∨ (∃ p ys, xs = [.ref p] ∧ (SqL K H p ys ∨ SqT K H p ys) ∧ Q (.int ys.length) H) ∨ ∃ a kvs, xs = [V.ref a] ∧ H a = some (.dK kvs) ∧ Q (.int kvs.length) H
theorem call_lenM : CallR X (.builtin "len") (rLenM X.K) := by
  intro pins s σ H xs us Q I r h
  rcases h with h | h | h
  · exact call_len_str pins s σ H _ us Q I r h
  · exact call_len_seq pins s σ H _ us Q I r h
  · exact call_lenD pins s σ H _ us Q I r h
theorem rep1 {α : Pl} {H : Hp} {x : M} {us : List V} (r : RepAs K α H [x] us) : ∃ u, us = [u] ∧ RepA K α H x u := by
  obtain ⟨u, q, rfl, h1, h2⟩ := r
  cases (show q = [] from h2)
  exact ⟨u, rfl, h1⟩
theorem rep2 {α : Pl} {H : Hp} {x y : M} {us : List V} (r : RepAs K α H [x, y] us) : ∃ u v, us = [u, v] ∧ RepA K α H x u ∧ RepA K α H y v := by
  obtain ⟨u, q, rfl, h1, h2⟩ := r
  obtain ⟨v, rfl, h3⟩ := rep1 h2
  exact ⟨u, v, rfl, h1, h3⟩
theorem fm_len : CallM K (rLenM K) bLen := by
  intro α h H xs d us Q hr rs e k
  unfold bLen at e
  split at e
  · split at e
    · rename_i hl
      cases e
      obtain ⟨u, rfl, ru⟩ := rep1 rs
      cases (show u = .str _ from ru)
      exact .inl ⟨_, rfl, by rw [sizeLine_eq]; exact hl, k H _ (Same.refl _) rfl⟩
    · cases e
  · cases e
    obtain ⟨u, rfl, a, vs, rfl, t, rv⟩ := rep1 rs
    exact .inr (.inl ⟨a, vs, rfl, .inr t.sq, k H _ (Same.refl _) (by rw [rv.length]; rfl)⟩)
  · cases e
    obtain ⟨u, rfl, a, ws, rfl, n, ha, ek, rv⟩ := rep1 rs
    exact .inr (.inr ⟨a, ws, rfl, ha, k H _ (Same.refl _) (by rw [← ek, List.length_map]; rfl)⟩)
  · obtain ⟨u, rfl, ru⟩ := rep1 rs
    split at e
    · rename_i ys hy
      cases e
      obtain ⟨a, vs, rfl, t, rv⟩ := seqR_rep hr ru hy
      exact .inr (.inl ⟨a, vs, rfl, .inl t, k H _ (Same.refl _) (by rw [rv.length]; rfl)⟩)
    · obtain ⟨kvs, e1, e2⟩ := Option.map_eq_some_iff.mp e
      subst e2
      obtain ⟨a, ws, rfl, ha, ek, rv⟩ := dctOf_rep hr ru e1
      refine .inr (.inr ⟨a, ws, rfl, ha, k H _ (Same.refl _) ?_⟩)
      have : ws.length = kvs.length := by have := congrArg List.length ek; simpa using this
      rw [this]; rfl
  · cases e
noncomputable def bAbs (xs : List M) (_ : HpM) : Option M := match xs with | [.int i] => some (.int (if i < 0 then -i else i)) | _ => none
theorem fm_abs : CallM K (fun xs H Q => ∃ i, xs = [.int i] ∧ Q (.int (if i < 0 then -i else i)) H) bAbs := by
  intro α h H xs d us Q hr rs e k
  unfold bAbs at e
  split at e
  · cases e
    obtain ⟨u, rfl, ru⟩ := rep1 rs
    cases (show u = .int _ from ru)
    exact ⟨_, rfl, k H _ (Same.refl _) rfl⟩
  · cases e
noncomputable def bMax (xs : List M) (_ : HpM) : Option M := match xs with | [.int i, .int j] => some (.int (if j > i then j else i)) | _ => none
theorem fm_max : CallM K (fun xs H Q => ∃ i j, xs = [.int i, .int j] ∧ Q (.int (if j > i then j else i)) H) bMax := by
  intro α h H xs d us Q hr rs e k
  unfold bMax at e
  split at e
  · cases e
    obtain ⟨u, v, rfl, ru, rv⟩ := rep2 rs
    cases (show u = .int _ from ru)
    cases (show v = .int _ from rv)
    exact ⟨_, _, rfl, k H _ (Same.refl _) rfl⟩
  · cases e
noncomputable def bInt (xs : List M) (_ : HpM) : Option M := match xs with | [.int i] => some (.int i) | [.bl b] => some (.int (if b then 1 else 0)) | _ => none
theorem fm_int : CallM K (fun xs H Q => (∃ i, xs = [.int i] ∧ Q (.int i) H) ∨ ∃ k, xs = [.bl k] ∧ Q (.int (if k then 1 else 0)) H) bInt := by
  intro α h H xs d us Q hr rs e k
  unfold bInt at e
  split at e
  · cases e
    obtain ⟨u, rfl, ru⟩ := rep1 rs
    cases (show u = .int _ from ru)
    exact .inl ⟨_, rfl, k H _ (Same.refl _) rfl⟩
  · cases e
    obtain ⟨u, rfl, ru⟩ := rep1 rs
    cases (show u = .bl _ from ru)
    exact .inr ⟨_, rfl, k H _ (Same.refl _) rfl⟩
  · cases e
noncomputable def bls : List M → Option (List Bool)
  | [] => some []
  | .bl b :: r => (bls r).map (b :: ·)
  | _ => none
theorem bls_rep {α : Pl} {H : Hp} : ∀ {xs : List M} {bs : List Bool} {vs : List V}, bls xs = some bs → RepAs K α H xs vs → vs = bs.map V.bl
  | [], _, vs, e, r => by cases e; exact r
  | .bl b :: xs, _, vs, e, r => by
    obtain ⟨cs, e1, e2⟩ := Option.map_eq_some_iff.mp e
    subst e2
    obtain ⟨v, q, rfl, h1, h2⟩ := r
    rw [bls_rep e1 h2, show v = .bl b from h1]
    rfl
  | .non :: _, _, _, e, _ | .int _ :: _, _, _, e, _ | .str _ :: _, _, _, e, _ | .ty _ :: _, _, _, e, _ | .tup _ :: _, _, _, e, _ | .lst _ :: _, _, _, e, _ | .dct _ _ :: _, _, _, e, _ | .ref _ :: _, _, _, e, _ | .scr _ :: _, _, _, e, _ => by cases e
noncomputable def bAll (xs : List M) (h : HpM) : Option M := match xs with | [x] => (seqL h x).bind fun ys => (bls ys).map fun bs => .bl (bs.all id) | _ => none
theorem fm_all : CallM K (fun xs H Q => ∃ (p : Addr) (bs : List Bool), xs = [.ref p] ∧ H p = some (.lst (bs.map V.bl)) ∧ Q (.bl (bs.all id)) H) bAll := by
  intro α h H xs d us Q hr rs e k
  unfold bAll at e
  split at e
  · obtain ⟨ys, e1, e⟩ := Option.bind_eq_some_iff.mp e
    obtain ⟨bs, e2, e3⟩ := Option.map_eq_some_iff.mp e
    subst e3
    obtain ⟨u, rfl, ru⟩ := rep1 rs
    obtain ⟨a, vs, rfl, ha, rv⟩ := seqL_rep hr ru e1
    rw [bls_rep e2 rv] at ha
    exact ⟨a, bs, rfl, ha, k H _ (Same.refl _) rfl⟩
  · cases e
noncomputable def bList (xs : List M) (h : HpM) : Option M := match xs with | [.tup ys] => some (.lst ys) | [x] => (seqR h x).map .lst | _ => none
theorem fm_list : CallM K (fun xs H Q => ∃ p ys, xs = [.ref p] ∧ (SqL K H p ys ∨ SqT K H p ys) ∧ ∀ l, H l = none → Q (.ref l) (upd H l (.lst ys))) bList := by
  intro α h H xs d us Q hr rs e k
  unfold bList at e
  split at e
  · cases e
    obtain ⟨u, rfl, a, vs, rfl, t, rv⟩ := rep1 rs
    exact ⟨a, vs, rfl, .inr t.sq, fun l hl => k _ _ (same_new hl _) (laidL hr hl rv)⟩
  · obtain ⟨ys, e1, e2⟩ := Option.map_eq_some_iff.mp e
    subst e2
    obtain ⟨u, rfl, ru⟩ := rep1 rs
    obtain ⟨a, vs, rfl, ha, rv⟩ := seqR_rep hr ru e1
    exact ⟨a, vs, rfl, .inl ha, fun l hl => k _ _ (same_new hl _) (laidL hr hl rv)⟩
  · cases e
noncomputable def bTuple (xs : List M) (h : HpM) : Option M := match xs with | [.tup ys] => some (.tup ys) | [x] => (seqR h x).map .tup | _ => none
theorem fm_tuple : CallM K (fun xs H Q => ∃ p ys, xs = [.ref p] ∧ ((SqL K H p ys ∧ ∀ l, H l = none → Q (.ref l) (upd H l (.tup ys))) ∨ (SqT K H p ys ∧ Q (.ref p) H))) bTuple := by
  intro α h H xs d us Q hr rs e k
  unfold bTuple at e
  split at e
  · cases e
    obtain ⟨u, rfl, a, vs, rfl, t, rv⟩ := rep1 rs
    exact ⟨a, vs, rfl, .inr ⟨t.sq, k H _ (Same.refl _) ⟨a, vs, rfl, t, rv⟩⟩⟩
  · obtain ⟨ys, e1, e2⟩ := Option.map_eq_some_iff.mp e
    subst e2
    obtain ⟨u, rfl, ru⟩ := rep1 rs
    obtain ⟨a, vs, rfl, ha, rv⟩ := seqR_rep hr ru e1
    exact ⟨a, vs, rfl, .inl ⟨ha, fun l hl => k _ _ (same_new hl _) (laidT hr hl rv)⟩⟩
  · cases e
noncomputable def tyM (h : HpM) : M → String
  | .non => "NoneType"
  | .bl _ => "bool"
  | .int _ => "int"
  | .str _ => "str"
  | .tup _ => "tuple"
  | .lst _ => "list"
  | .scr _ => "list"
  | .dct _ _ => "dict"
  | .ref k => (match h[k]? with | some (.lst _) => "list" | some (.dct _) => "dict" | none => "")
  | .ty _ => ""
noncomputable def tysM : List M → Option (List String)
  | [] => some []
  | .ty c :: r => (tysM r).map (c :: ·)
  | _ => none
noncomputable def okTy (c : String) : Bool := c == "str" || c == "int" || c == "bool" || c == "tuple" || c == "list"
noncomputable def bInst (xs : List M) (h : HpM) : Option M := match xs with
  | [x, .ty c] => if tyM h x ≠ "" ∧ okTy c = true then some (.bl (instB (tyM h x) c)) else none
  | [x, .tup ts] => (tysM ts).bind fun cs => if tyM h x ≠ "" ∧ cs.all okTy = true then some (.bl (cs.any (instB (tyM h x)))) else none
  | _ => none
inductive TyK (K : PySem.W.Frag) (H : Hp) : V → String → Prop where
  | non : TyK K H .non "NoneType"
  | bl (x : Bool) : TyK K H (.bl x) "bool"
  | int (i : Int) : TyK K H (.int i) "int"
  | str (x : Str) : TyK K H (.str x) "str"
  | lst {a : Addr} {xs : List V} (e : SqL K H a xs) : TyK K H (.ref a) "list"
  | tup {a : Addr} {xs : List V} (e : SqT K H a xs) : TyK K H (.ref a) "tuple"
  | dK {a : Addr} {kvs : List (Key × V)} (e : H a = some (.dK kvs)) : TyK K H (.ref a) "dict"
theorem tyM_rep {α : Pl} {h : HpM} {H : Hp} {m : M} {v : V} (hr : Rl K α h H) (r : RepA K α H m v) (n : tyM h m ≠ "") : TyK K H v (tyM h m) := by
  cases m with
  | non => cases (show v = .non from r); exact .non
  | bl b => cases (show v = .bl b from r); exact .bl b
  | int b => cases (show v = .int b from r); exact .int b
  | str b => cases (show v = .str b from r); exact .str b
  | ty b => exact absurd rfl n
  | tup xs => obtain ⟨a, vs, rfl, t, _⟩ := r; exact .tup t.sq
  | lst xs => obtain ⟨a, vs, rfl, _, t, _⟩ := r; exact .lst (.of t)
  | scr xs => obtain ⟨a, rfl, t⟩ := r; exact .lst t.sq
  | dct ks xs => obtain ⟨a, vs, rfl, _, t, _⟩ := r; exact .dK t
  | ref k =>
    obtain ⟨a, ha, rfl⟩ := r
    unfold tyM at n ⊢
    dsimp only at n ⊢
    cases e : h[k]? with
    | none => rw [e] at n; exact absurd rfl n
    | some o =>
      cases o with
      | lst xs => obtain ⟨vs, hv, _⟩ := hr.obj k a _ ha e; exact .lst (.of hv)
      | dct xs => obtain ⟨vs, hv, _⟩ := hr.obj k a _ ha e; exact .dK hv
theorem TyK.name {H : Hp} {x : V} {t : String} (h : TyK K H x t) : t = "NoneType" ∨ t = "bool" ∨ t = "int" ∨ t = "str" ∨ t = "list" ∨ t = "tuple" ∨ t = "dict" := by cases h <;> simp
def rInstM (K : PySem.W.Frag) : List V → Hp → VK → Prop := fun xs H Q => (∃ x t c, xs = [x, .ty c] ∧ TyK K H x t ∧ okTy c = true ∧ Q (.bl (instB t c)) H) ∨
  ∃ (x : V) (t : String) (p : Addr) (cs : List String), xs = [x, .ref p] ∧ TyK K H x t ∧ SqT K H p (cs.map V.ty) ∧ cs.all okTy = true ∧ Q (.bl (cs.any (instB t))) H
theorem okTy_of {c : String} (h : okTy c = true) : c = "str" ∨ c = "int" ∨ c = "bool" ∨ c = "tuple" ∨ c = "list" := by
  simpa [okTy, or_assoc] using h
theorem call_instM : CallR X (.builtin "isinstance") (rInstM X.K) := by
  intro pins s σ H xs us Q I r h
  rcases h with ⟨x, t, c, rfl, ty, hc, q⟩ | ⟨x, t, p, cs, rfl, ty, hp, hc, q⟩
  · obtain ⟨u, w', rfl, ru, rw'⟩ := vals2 r
    obtain rfl : w' = Value.type c := rw'
    have e := kit_instB X.K ty.name (okTy_of hc)
    have fin : ∀ tk, EP X pins σ Q (.bool (instB t c)) { s with toks := tk } := fun tk => ⟨.bl _, H, I.tok _, rfl, q⟩
    cases ty with
    | non => cases (show u = Value.none from ru); exact PySem.W.kia_one PySem.W.kitx_none I.kIn True.intro e (fun z => nomatch z) fin
    | bl y => cases (show u = Value.bool y from ru); exact PySem.W.kia_one PySem.W.kitx_bool I.kIn True.intro e (fun z => nomatch z) fin
    | int i => obtain ⟨t, q⟩ := (show ∃ t, u = Value.int i t from ru); cases q; exact PySem.W.kia_one PySem.W.kitx_int I.kIn True.intro e (fun z => nomatch z) fin
    | str y => obtain ⟨t, q⟩ := (show ∃ t, u = Value.str y t from ru); cases q; exact PySem.W.kia_one PySem.W.kitx_str I.kIn True.intro e (fun z => nomatch z) fin
    | lst hx =>
      cases (show u = Value.ref _ from ru)
      obtain ⟨its, _, o, e1, c1, _⟩ := I.lstK hx
      exact PySem.W.kia_one PySem.W.kitx_list I.kIn ⟨o, e1, c1⟩ e (fun z => nomatch z) fin
    | tup hx =>
      cases (show u = Value.ref _ from ru)
      obtain ⟨its, _, o, e1, c1, _⟩ := I.tupK hx
      exact PySem.W.kia_one PySem.W.kitx_tuple I.kIn ⟨o, e1, c1⟩ e (fun z => nomatch z) fin
    | @dK a kvs ea =>
      cases (show u = Value.ref a from ru)
      obtain ⟨_, _, vs, _, p⟩ := (show ObjOk X.prog X.w H s.heap a (.dK kvs) from I.hok a _ ea)
      obtain ⟨o, es, ep, h1, h2, _⟩ := p
      exact PySem.W.kia_one PySem.W.kitx_dict I.kIn ⟨o, h1, h2.1⟩ e (fun z => nomatch z) fin
  · obtain ⟨u, w', rfl, ru, rw'⟩ := vals2 r
    obtain rfl : w' = Value.ref p := rw'
    have e := kitAny_of X.K ty.name (cs := cs) fun c hm => okTy_of (List.all_eq_true.mp hc c hm)
    obtain ⟨its, rv, ht⟩ := I.tupK hp
    have ei := vals_ty rv
    obtain ⟨⟨cls, dd, data, sl⟩, ho, hcl, n, hd⟩ := id ht
    simp only at hcl hd
    subst hcl hd
    rw [← ei] at e
    have fin : ∀ tk, EP X pins σ Q (.bool (cs.any (instB t))) { s with toks := tk } := fun tk => ⟨.bl _, H, I.tok _, rfl, q⟩
    cases ty with
    | non => cases (show u = Value.none from ru); exact PySem.W.kia_tup PySem.W.kitx_none I.kIn True.intro ho e (fun z => nomatch z) fin
    | bl y => cases (show u = Value.bool y from ru); exact PySem.W.kia_tup PySem.W.kitx_bool I.kIn True.intro ho e (fun z => nomatch z) fin
    | int i => obtain ⟨t, q⟩ := (show ∃ t, u = Value.int i t from ru); cases q; exact PySem.W.kia_tup PySem.W.kitx_int I.kIn True.intro ho e (fun z => nomatch z) fin
    | str y => obtain ⟨t, q⟩ := (show ∃ t, u = Value.str y t from ru); cases q; exact PySem.W.kia_tup PySem.W.kitx_str I.kIn True.intro ho e (fun z => nomatch z) fin
    | lst hx =>
      cases (show u = Value.ref _ from ru)
      obtain ⟨its, _, o, e1, c1, _⟩ := I.lstK hx
      exact PySem.W.kia_tup PySem.W.kitx_list I.kIn ⟨o, e1, c1⟩ ho e (fun z => nomatch z) fin
    | tup hx =>
      cases (show u = Value.ref _ from ru)
      obtain ⟨its, _, o, e1, c1, _⟩ := I.tupK hx
      exact PySem.W.kia_tup PySem.W.kitx_tuple I.kIn ⟨o, e1, c1⟩ ho e (fun z => nomatch z) fin
    | @dK a kvs ea =>
      cases (show u = Value.ref a from ru)
      obtain ⟨_, _, vs, _, p⟩ := (show ObjOk X.prog X.w H s.heap a (.dK kvs) from I.hok a _ ea)
      obtain ⟨o, es, ep, h1, h2, _⟩ := p
      exact PySem.W.kia_tup PySem.W.kitx_dict I.kIn ⟨o, h1, h2.1⟩ ho e (fun z => nomatch z) fin
theorem tysM_rep {α : Pl} {H : Hp} : ∀ {xs : List M} {cs : List String} {vs : List V}, tysM xs = some cs → RepAs K α H xs vs → vs = cs.map V.ty
  | [], _, vs, e, r => by cases e; exact r
  | .ty b :: xs, _, vs, e, r => by
    obtain ⟨cs, e1, e2⟩ := Option.map_eq_some_iff.mp e
    subst e2
    obtain ⟨v, q, rfl, h1, h2⟩ := r
    rw [tysM_rep e1 h2, show v = .ty b from h1]
    rfl
  | .non :: _, _, _, e, _ | .int _ :: _, _, _, e, _ | .str _ :: _, _, _, e, _ | .bl _ :: _, _, _, e, _ | .tup _ :: _, _, _, e, _ | .lst _ :: _, _, _, e, _ | .dct _ _ :: _, _, _, e, _ | .ref _ :: _, _, _, e, _ | .scr _ :: _, _, _, e, _ => by cases e
theorem fm_inst : CallM K (rInstM K) bInst := by
  intro α h H xs d us Q hr rs e k
  unfold bInst at e
  split at e
  · split at e
    · rename_i hc
      cases e
      obtain ⟨u, v, rfl, ru, rv⟩ := rep2 rs
      cases (show v = .ty _ from rv)
      exact .inl ⟨u, _, _, rfl, tyM_rep hr ru hc.1, hc.2, k H _ (Same.refl _) rfl⟩
    · cases e
  · obtain ⟨cs, e1, e⟩ := Option.bind_eq_some_iff.mp e
    split at e
    · rename_i hc
      cases e
      obtain ⟨u, v, rfl, ru, a, vs, rfl, t, rv⟩ := rep2 rs
      rw [tysM_rep e1 rv] at t
      exact .inr ⟨u, _, a, cs, rfl, tyM_rep hr ru hc.1, t.sq, hc.2, k H _ (Same.refl _) rfl⟩
    · cases e
  · cases e
end
end L2
set_option Elab.async false
set_option linter.all false
set_option maxRecDepth 100000
namespace L2
open PySem PySem.Spec PyProof.Rows
section
variable {X : Cx} {K : PySem.W.Frag}
noncomputable def isL (x : M) (h : HpM) : Bool := (seqL h x).isSome
theorem isL_ty {α : Pl} {h : HpM} {H : Hp} {x : M} {v : V} (hr : Rl K α h H) (r : RepA K α H x v) (e : isL x h = true) : tyV K "list" v H := by
  obtain ⟨xs, e1⟩ := Option.isSome_iff_exists.mp e
  obtain ⟨a, vs, rfl, ha, _⟩ := seqL_rep hr r e1
  exact .inl ⟨rfl, vs, .of ha⟩
noncomputable def onL (f : List M → Option (M × List M)) (x : M) (h : HpM) : Option (M × HpM) := match x with
  | .ref k => (match h[k]? with | some (.lst xs) => (f xs).map fun (d, ys) => (d, h.set k (.lst ys)) | _ => none)
  | _ => none
theorem onL_inv {f : List M → Option (M × List M)} {x : M} {h : HpM} {d : M} {h' : HpM} (e : onL f x h = some (d, h')) : ∃ k xs ys, x = .ref k ∧ h[k]? = some (.lst xs) ∧ f xs = some (d, ys) ∧ h' = h.set k (.lst ys) := by
  unfold onL at e
  split at e
  · split at e
    · rename_i hk
      obtain ⟨⟨d1, ys⟩, e1, e2⟩ := Option.map_eq_some_iff.mp e
      cases e2
      exact ⟨_, _, ys, rfl, hk, e1, rfl⟩
    · cases e
  · cases e
theorem onL_ok {α : Pl} {h : HpM} {H : Hp} {k : Nat} {a : Addr} {ys : List M} {ws : List V} {d : M} {w : V} {Q : VK} (hr : Rl K α h H) (ha : α.a[k]? = some a) (rs : RepAs K α H ys ws) (rd : RepA K α H d w)
    (q : ∀ α' H' w, Ev α α' H H' → Rl K α' (h.set k (.lst ys)) H' → RepA K α' H' d w → Q w H') : Q w (upd H a (.lst ws)) := by
  have ev : Ev α α H (upd H a (.lst ws)) := Ev.write hr (List.mem_of_getElem? ha)
  exact q α _ w ev (hr.write ha ⟨ws, upd_same, rs.ev ev⟩) (rd.ev ev)
noncomputable def mAppend (x : M) (xs : List M) (h : HpM) : Option (M × HpM) := match xs with | [y] => onL (fun ys => if ys.length < 16777216 then some (.non, ys ++ [y]) else none) x h | _ => none
theorem fm_append : MtA K rAppend mAppend := by
  intro α h h' H x xs d u us Q hr rx rs e k
  unfold mAppend at e
  split at e
  · obtain ⟨q, xs, ys, rfl, hq, e1, rfl⟩ := onL_inv e
    split at e1
    · rename_i hl
      cases e1
      obtain ⟨a, ha, rfl⟩ := rx
      obtain ⟨v, rfl, rv⟩ := rep1 rs
      obtain ⟨vs, hv, rvs⟩ := hr.obj q a _ ha hq
      exact ⟨a, vs, v, rfl, rfl, hv, by rw [← rvs.length, sizeLine_eq]; exact hl, onL_ok hr ha (rvs.snoc rv) (d := .non) (w := .non) rfl k⟩
    · cases e1
  · cases e
noncomputable def gSubM (o i : FE) : FG := fun x ρ h => bnd (o ρ h) fun oo h1 => bnd (i ρ h1) fun ii h2 => match ii with
  | .int j => bnd (onL (fun ys => (ixN ys.length j).map fun q => (.non, ys.set q x)) oo h2) fun _ h3 => some (ρ, h3)
  | _ => none
theorem mg_sub {o i : Expr} {mo mi : FE} {pos : Pos} (ho : PE X o (tM X.K mo)) (hi : PE X i (tM X.K mi))
    (ha : ∀ v, assign (.Subscript o i pos) X.env v = (do
      let ov ← holding [v] (eval o X.env)
      let iv ← holding [v, ov] (eval i X.env)
      standAt pos
      holding [v, ov, iv] (setItem ov iv v)
      release [v, ov, iv] [])) : PG X (.Subscript o i pos) (gM X.K (gSubM mo mi)) := (pg_sub ho hi set_list ha).imp <| by
  rintro v σ H Q ⟨α, ρ, h, x, ρ', h', hσ, hr, rx, e, k⟩
  obtain ⟨oo, h1, e1, e⟩ := bnd_inv e
  obtain ⟨ii, h2, e2, e⟩ := bnd_inv e
  split at e
  · obtain ⟨_, h3, e3, e⟩ := bnd_inv e
    cases e
    obtain ⟨q, xs, ys, rfl, hq, e4, rfl⟩ := onL_inv e3
    obtain ⟨j, e5, e6⟩ := Option.map_eq_some_iff.mp e4
    cases e6
    refine ⟨α, ρ, h, _, h1, hσ, hr, e1, fun α1 H1 u ev1 hr1 ru => ⟨α1, ρ, h1, _, h2, hσ.ev ev1, hr1, e2, fun α2 H2 w ev2 hr2 rw' => ?_⟩⟩
    obtain ⟨a, ha, rfl⟩ := ru
    have ha2 := ev2.ix ha
    obtain ⟨vs, hv, rvs⟩ := hr2.obj q a _ ha2 hq
    refine ⟨a, vs, _, j, rfl, rw', hv, by rw [← rvs.length]; exact e5, ?_⟩
    have ev : Ev α2 α2 H2 (upd H2 a (.lst (vs.set j v))) := Ev.write hr2 (List.mem_of_getElem? ha2)
    have evA := (ev1.trans ev2).trans ev
    exact k α2 _ σ evA (hr2.write ha2 ⟨_, upd_same, (rvs.set ((rx.ev ev1).ev ev2) j).ev ev⟩) (hσ.ev evA)
  · cases e
end
end L2
set_option Elab.async false
set_option linter.all false
set_option maxRecDepth 100000
namespace L2
open PySem PySem.Spec PyProof.Rows
def ConstM (K : PySem.W.Frag) (d : M) (u : Value) : Prop := ∃ v, RelV v u ∧ ∀ α H, RepA K α H d v
section
variable {X : Cx} {a b c e o e' : Expr} {es : List Expr} {ma mb mc me : FE} {mas : FA} {tc : FT} {ms mr : FS} {g : FG} {pos p : Pos}
theorem me_glob {x : Str} {u : Value} {d : M} (q : NmOk X.env.scope x .globalImplicit) (hm : X.mg x = some u) (r : ConstM X.K d u) : PE X (.Name x pos) (tM X.K (mC d)) := by
  obtain ⟨v, rv, rd⟩ := r
  exact me_C (pe_globk q hm rv) rd
noncomputable def sPar (i j : Nat) (a : FA) : FS := fun ρ h => bnd (a ρ h) fun xs h1 => match xs with | [x, y] => some (.nx ((ρ.set i (some x)).set j (some y)), h1) | _ => none
theorem ms_par {i j : Nat} {x y : Str} {px py pt : Pos} {kt k2 pt2} (hc : X.calm = true) (hN : X.N.Nodup) (hi : X.N[i]? = some x) (hj : X.N[j]? = some y) (hij : i ≠ j)
    (hx : X.env.scope.names.lookup x = some .local) (hy : X.env.scope.names.lookup y = some .local) (ha : PA X [a, b] (aM X.K mas))
    (hw : swappedStores [.Tuple [.Name x px, .Name y py] kt pt] (.Tuple [a, b] k2 pt2) X.env = pure (some [x, y]))
    (hs : swapsWithSole [.Tuple [.Name x px, .Name y py] kt pt] (.Tuple [a, b] k2 pt2) pos.line X.env = pure false) :
    PS X (.Assign [.Tuple [.Name x px, .Name y py] kt pt] (.Tuple [a, b] k2 pt2) pos) (sM X.K (sPar i j mas)) := (ps_par hc hN hi hj hij hx hy ha hw hs).imp <| by
  rintro D σ H ⟨α, ρ, h, d, h', hσ, hr, e, k⟩
  obtain ⟨xs, h1, e1, e⟩ := bnd_inv e
  split at e
  · cases e
    refine ⟨α, ρ, h, _, _, hσ, hr, e1, fun α1 H1 vs ev1 hr1 rs => ?_⟩
    obtain ⟨u, v, rfl, ru, rv⟩ := rep2 rs
    exact ⟨u, v, rfl, k α1 H1 ev1 hr1 _ (((hσ.ev ev1).set ru).set rv)⟩
  · cases e
theorem me_chain3 {op op' op'' : CmpOp} {r r' r'' : R2} {f f' f'' : M → M → HpM → Option M} {md : FE} (ho : OpR X (compareOp op) r) (hf : OpM X.K r f) (ho' : OpR X (compareOp op') r') (hf' : OpM X.K r' f') (ho'' : OpR X (compareOp op'') r'') (hf'' : OpM X.K r'' f'')
    (ha : PE X a (tM X.K ma)) (hb : PE X b (tM X.K mb)) (hc : PE X c (tM X.K mc)) (he : PE X e (tM X.K md)) (hm : lastMarks [op, op', op''] [b, c, e] = false) :
    PE X (.Compare a [op, op', op''] [b, c, e] pos) (tM X.K (mChain3 f f' f'' ma mb mc md)) := (pe_chain3 ho ho' ho'' ha hb hc he hm).imp <| by
  rintro σ H Q ⟨α, ρ, h, d, h', hσ, hr, e, k⟩
  obtain ⟨x, h1, e1, e⟩ := bnd_inv e
  obtain ⟨y, h2, e2, e⟩ := bnd_inv e
  obtain ⟨z, e3, e⟩ := Option.bind_eq_some_iff.mp e
  obtain ⟨q, rfl, e⟩ := asB_inv e
  refine ⟨α, ρ, h, x, h1, hσ, hr, e1, fun α1 H1 u ev1 hr1 rx => ⟨α1, ρ, h1, y, h2, hσ.ev ev1, hr1, e2, fun α2 H2 v ev2 hr2 ry =>
    hf α2 _ H2 x y _ u v _ hr2 (rx.ev ev2) ry e3 fun H3 w s rw => ⟨q, rw, ?_⟩⟩⟩
  have hr3 := hr2.same s
  have ev3 := (ev1.trans ev2).trans (Ev.same (α := α2) s)
  cases q with
  | false => cases e; exact k α2 H3 _ ev3 hr3 rfl
  | true =>
    obtain ⟨w', h4, e4, e⟩ := bnd_inv e
    obtain ⟨z', e5, e⟩ := Option.bind_eq_some_iff.mp e
    obtain ⟨q', rfl, e⟩ := asB_inv e
    refine ⟨α2, ρ, h2, w', h4, hσ.ev ev3, hr3, e4, fun α4 H4 v4 ev4 hr4 r4 => hf' α4 _ H4 y w' _ v v4 _ hr4 ((ry.ev (.same s)).ev ev4) r4 e5 fun H5 w5 s5 r5 => ⟨q', r5, ?_⟩⟩
    have hr5 := hr4.same s5
    have ev5 := (ev3.trans ev4).trans (Ev.same (α := α4) s5)
    cases q' with
    | false => cases e; exact k α4 H5 _ ev5 hr5 rfl
    | true =>
      obtain ⟨w6, h6, e6, e⟩ := bnd_inv e
      obtain ⟨e7, e8⟩ := map_inv e
      dsimp only at e7 e8
      subst e8
      exact ⟨α4, ρ, h4, w6, _, hσ.ev ev5, hr5, e6, fun α6 H6 v6 ev6 hr6 r6 => hf'' α6 _ H6 w' w6 _ v4 v6 _ hr6 ((r4.ev (.same s5)).ev ev6) r6 e7 fun H7 w7 s7 r7 => k α6 H7 w7 ((ev5.trans ev6).trans (.same s7)) (hr6.same s7) r7⟩
end
section
variable {P : Program} {w : World} {K : PySem.W.Frag} {mg : Str → Option Value} {base : Heap}
theorem FnOk.empty {CX : CXT} {k : Nat} {f : Addr} {fd : FuncData} {ps : List Str} : FnOk P w K mg base CX k f fd ps (spM K fun _ _ => none) :=
  ⟨(by rintro vs H Q E ⟨_, _, _, _, _, _, _, e, _⟩; exact (nomatch e)), (by rintro A outer s H args us vs Q E _ _ _ _ ⟨_, _, _, _, _, _, _, e, _⟩; exact (nomatch e))⟩
end
noncomputable def spLaw (K : PySem.W.Frag) : Sp := fun vs H Q _ => ∃ (a : Addr) (ns : List Int), vs = [.ref a] ∧ SqL K H a (ns.map V.int) ∧ ns.length ≤ 63 ∧ ∀ H', Q (.bl true) H'
theorem spLaw_of {K : PySem.W.Frag} {H : Hp} {a : Addr} {ns : List Int} (hl : ns.length ≤ 63) (hS : SqL K H a (ns.map V.int)) : spLaw K [.ref a] H (fun v _ => v = .bl true) fun _ _ _ => False := ⟨a, ns, rfl, hS, hl, fun _ => rfl⟩
theorem spLaw_spM {K : PySem.W.Frag} {m : FF} (hm : ∀ ns : List Int, ns.length ≤ 63 → ∃ h', m [.scr ns] [] = some (.bl true, h')) {vs : List V} {H : Hp} {Q : VK} {E : XK} (q : spLaw K vs H Q E) : spM K m vs H Q E := by
  obtain ⟨a, ns, rfl, hS, hl, k⟩ := q
  obtain ⟨h', e⟩ := hm ns hl
  refine ⟨⟨[], []⟩, [], [.scr ns], .bl true, h', ⟨_, _, rfl, ⟨a, rfl, ?_⟩, rfl⟩, ⟨rfl, by simp, by simp, by simp, fun k a o hk => by simp at hk⟩, e, fun α' H' v _ _ rv => ?_⟩
  · rcases hS with hS | hS
    · exact .inl ⟨hS, by simp, by simp⟩
    · exact .inr hS
  · cases (show v = .bl true from rv); exact k H'
end L2
set_option Elab.async false
set_option linter.all false
set_option maxRecDepth 100000
set_option Elab.async false
set_option linter.all false
set_option maxRecDepth 100000
namespace L2
open PySem
def Ens {a : Type} (x : Option (a × HpM)) (Q : a → HpM → Prop) : Prop := ∃ y h, x = some (y, h) ∧ Q y h
def Enp {a : Type} (x : Option a) (Q : a → Prop) : Prop := ∃ y, x = some y ∧ Q y
def EB (x : M) (R : Bool → Prop) : Prop := ∃ b, x = .bl b ∧ R b
noncomputable def SQ (b : FS) (Q : Out → HpM → Prop) : Out → HpM → Prop
  | .nx ρ, h => Ens (b ρ h) Q
  | o, h => Q o h
noncomputable def FQ (Q : M → HpM → Prop) : Out → HpM → Prop
  | .rt d, h => Q d h
  | .nx _, h => Q .non h
  | _, _ => False
section
variable {a b : Type} {Q : a → HpM → Prop} {R : M → HpM → Prop} {S : Out → HpM → Prop} {T : Bool → HpM → Prop} {U : List M → HpM → Prop} {ρ : EnvM} {h : HpM} {m ma mb mc : FE} {mas : FA} {ta tb : FT} {sa sb : FS} {d x y : M}
theorem Ens.mono {x : Option (a × HpM)} {Q Q' : a → HpM → Prop} (e : Ens x Q) (i : ∀ y h, Q y h → Q' y h) : Ens x Q' := by obtain ⟨y, h, e, q⟩ := e; exact ⟨y, h, e, i y h q⟩
theorem Ens.ret {y : a} (q : Q y h) : Ens (some (y, h)) Q := ⟨y, h, rfl, q⟩
theorem Ens.bnd {x : Option (a × HpM)} {f : a → HpM → Option (b × HpM)} {Q : b → HpM → Prop} (e : Ens x fun y h => Ens (f y h) Q) : Ens (L2.bnd x f) Q := by
  obtain ⟨y, h, rfl, e⟩ := e; exact e
theorem Enp.map {x : Option a} (e : Enp x fun y => Q y h) : Ens (x.map (·, h)) Q := by obtain ⟨y, rfl, q⟩ := e; exact ⟨y, h, rfl, q⟩
theorem e_c (q : R d h) : Ens (mC d ρ h) R := .ret q
theorem e_var {i : Nat} {v : M} (e : ρ[i]? = some (some v)) (q : R v h) : Ens (mVar i ρ h) R := ⟨v, h, by unfold mVar; rw [e], q⟩
theorem e_nil (q : U [] h) : Ens (mNil ρ h) U := .ret q
theorem e_cons (q : Ens (ma ρ h) fun x h1 => Ens (mas ρ h1) fun xs h2 => U (x :: xs) h2) : Ens (mCons ma mas ρ h) U := .bnd (q.mono fun x h1 q => .bnd (q.mono fun xs h2 q => .ret q))
theorem e_tup (q : Ens (mas ρ h) fun xs h1 => xs.length ≤ 16777216 ∧ R (.tup xs) h1) : Ens (mTup mas ρ h) R := .bnd (q.mono fun xs h1 q => by rw [if_pos q.1]; exact .ret q.2)
theorem e_lst (q : Ens (mas ρ h) fun xs h1 => xs.length ≤ 16777216 ∧ R (.lst xs) h1) : Ens (mLst mas ρ h) R := .bnd (q.mono fun xs h1 q => by rw [if_pos q.1]; exact .ret q.2)
theorem e_lstH (q : Ens (mas ρ h) fun xs h1 => xs.length ≤ 16777216 ∧ R (.ref h1.length) (h1 ++ [.lst xs])) : Ens (mLstH mas ρ h) R := .bnd (q.mono fun xs h1 q => by rw [if_pos q.1]; exact .ret q.2)
theorem e_op {f : M → M → HpM → Option M} (q : Ens (ma ρ h) fun x h1 => Ens (mb ρ h1) fun y h2 => Enp (f x y h2) fun d => R d h2) : Ens (mOp f ma mb ρ h) R := .bnd (q.mono fun x h1 q => .bnd (q.mono fun y h2 q => q.map))
theorem e_un {f : M → HpM → Option M} (q : Ens (ma ρ h) fun x h1 => Enp (f x h1) fun d => R d h1) : Ens (mUn f ma ρ h) R := .bnd (q.mono fun x h1 q => q.map)
theorem e_cb {f : List M → HpM → Option M} (q : Ens (mas ρ h) fun xs h1 => Enp (f xs h1) fun d => R d h1) : Ens (mCB f mas ρ h) R := .bnd (q.mono fun x h1 q => q.map)
theorem e_call {f : FF} (q : Ens (mas ρ h) fun xs h1 => Ens (f xs h1) R) : Ens (mCall f mas ρ h) R := .bnd q
theorem e_mt {ok : M → HpM → Bool} {f : M → List M → HpM → Option (M × HpM)} (q : Ens (ma ρ h) fun x h1 => ok x h1 = true ∧ Ens (mas ρ h1) fun xs h2 => Ens (f x xs h2) R) : Ens (mMt ok f ma mas ρ h) R := .bnd (q.mono fun x h1 q => by rw [if_pos q.1]; exact .bnd q.2)
theorem e_asB {f : Bool → Option (a × HpM)} (q : EB x fun c => Ens (f c) Q) : Ens (asB x f) Q := by obtain ⟨c, rfl, q⟩ := q; exact q
theorem e_eb {c : Bool} {R : Bool → Prop} (q : R c) : EB (.bl c) R := ⟨c, rfl, q⟩
theorem e_and (q : Ens (ma ρ h) fun x h1 => EB x fun c => if c = true then Ens (mb ρ h1) R else R (.bl false) h1) : Ens (mAnd ma mb ρ h) R := .bnd (q.mono fun x h1 q => e_asB (by
  obtain ⟨c, rfl, q⟩ := q
  refine ⟨c, rfl, ?_⟩
  cases c
  · exact .ret q
  · exact q))
theorem e_or (q : Ens (ma ρ h) fun x h1 => EB x fun c => if c = true then R (.bl true) h1 else Ens (mb ρ h1) R) : Ens (mOr ma mb ρ h) R := .bnd (q.mono fun x h1 q => e_asB (by
  obtain ⟨c, rfl, q⟩ := q
  refine ⟨c, rfl, ?_⟩
  cases c
  · exact q
  · exact .ret q))
theorem e_not (q : Ens (ma ρ h) fun x h1 => EB x fun c => R (.bl (!c)) h1) : Ens (mNot ma ρ h) R := .bnd (q.mono fun x h1 q => e_asB (by
  obtain ⟨c, rfl, q⟩ := q
  exact ⟨c, rfl, .ret q⟩))
theorem e_chain {f g : M → M → HpM → Option M} (q : Ens (ma ρ h) fun x h1 => Ens (mb ρ h1) fun y h2 => Enp (f x y h2) fun z => EB z fun k => if k = true then Ens (mc ρ h2) fun w h3 => Enp (g y w h3) fun d => R d h3 else R (.bl false) h2) : Ens (mChain f g ma mb mc ρ h) R :=
  .bnd (q.mono fun x h1 q => .bnd (q.mono fun y h2 q => by
    obtain ⟨z, e, k, rfl, q⟩ := q
    rw [e, Option.bind_some]
    refine e_asB ⟨k, rfl, ?_⟩
    cases k
    · exact .ret q
    · exact .bnd (q.mono fun w h3 q => q.map)))
theorem e_tV (q : Ens (ma ρ h) fun x h1 => EB x fun c => T c h1) : Ens (tV ma ρ h) T := .bnd (q.mono fun x h1 q => e_asB (by obtain ⟨c, rfl, q⟩ := q; exact ⟨c, rfl, .ret q⟩))
theorem e_tAnd (q : Ens (ta ρ h) fun c h1 => if c = true then Ens (tb ρ h1) T else T false h1) : Ens (tAndM ta tb ρ h) T := .bnd (q.mono fun c h1 q => by cases c; exact .ret q; exact q)
theorem e_tOr (q : Ens (ta ρ h) fun c h1 => if c = true then T true h1 else Ens (tb ρ h1) T) : Ens (tOrM ta tb ρ h) T := .bnd (q.mono fun c h1 q => by cases c; exact q; exact .ret q)
theorem e_tNot (q : Ens (ta ρ h) fun c h1 => T (!c) h1) : Ens (tNotM ta ρ h) T := .bnd (q.mono fun c h1 q => .ret q)
theorem e_tTrue (q : T true h) : Ens (tTrueM ρ h) T := .ret q
theorem e_oNo {O : Option Int → HpM → Prop} (q : O none h) : Ens (oNo ρ h) O := .ret q
theorem e_oSome {O : Option Int → HpM → Prop} (q : Ens (ma ρ h) fun x h1 => ∃ i, x = .int i ∧ O (some i) h1) : Ens (oSome ma ρ h) O := .bnd (q.mono fun x h1 q => by obtain ⟨i, rfl, q⟩ := q; exact .ret q)
theorem e_sl {f : M → Option Int → Option Int → HpM → Option M} {lo hi : FO} (q : Ens (ma ρ h) fun x h1 => Ens (lo ρ h1) fun l h2 => Ens (hi ρ h2) fun u h3 => Enp (f x l u h3) fun d => R d h3) : Ens (mSl f ma lo hi ρ h) R :=
  .bnd (q.mono fun x h1 q => .bnd (q.mono fun l h2 q => .bnd (q.mono fun u h3 q => q.map)))
theorem e_next (q : S (.nx ρ) h) : Ens (sNext ρ h) S := .ret q
theorem e_ret (q : Ens (ma ρ h) fun x h1 => S (.rt x) h1) : Ens (sRet ma ρ h) S := .bnd (q.mono fun x h1 q => .ret q)
theorem e_drop (q : Ens (ma ρ h) fun _ h1 => S (.nx ρ) h1) : Ens (sDrop ma ρ h) S := .bnd (q.mono fun x h1 q => .ret q)
theorem e_seq (q : Ens (sa ρ h) (SQ sb S)) : Ens (sSeq sa sb ρ h) S := .bnd (q.mono fun o h1 q => by
  cases o with
  | nx ρ' => exact q
  | bk ρ' => exact .ret q
  | ct ρ' => exact .ret q
  | rt d => exact .ret q)
theorem e_sqN (q : Ens (sb ρ h) S) : SQ sb S (.nx ρ) h := q
theorem e_sqR (q : S (.rt d) h) : SQ sb S (.rt d) h := q
theorem e_fqR (q : R d h) : FQ R (.rt d) h := q
theorem e_sif (q : Ens (ta ρ h) fun c h1 => if c = true then Ens (sa ρ h1) S else Ens (sb ρ h1) S) : Ens (sIf ta sa sb ρ h) S := .bnd (q.mono fun c h1 q => by cases c <;> exact q)
theorem e_asg {g : FG} (q : Ens (ma ρ h) fun x h1 => Ens (g x ρ h1) fun ρ' h2 => S (.nx ρ') h2) : Ens (sAsg ma g ρ h) S := .bnd (q.mono fun x h1 q => .bnd (q.mono fun ρ' h2 q => .ret q))
theorem e_nm {i : Nat} {G : EnvM → HpM → Prop} (q : G (ρ.set i (some x)) h) : Ens (gNm i x ρ h) G := .ret q
theorem e_gnil {G : EnvM → HpM → Prop} (q : G ρ h) : Ens (gsNil [] ρ h) G := .ret q
theorem e_gcons {g : FG} {gs : FGs} {xs : List M} {G : EnvM → HpM → Prop} (q : Ens (g x ρ h) fun ρ' h' => Ens (gs xs ρ' h') G) : Ens (gsCons g gs (x :: xs) ρ h) G := .bnd q
theorem e_gtp {n : Nat} {gs : FGs} {xs : List M} {G : EnvM → HpM → Prop} (e : xs.length = n) (q : Ens (gs xs ρ h) G) : Ens (gTp n gs (.tup xs) ρ h) G := by show Ens (if xs.length = n then _ else _) G; rw [if_pos e]; exact q
theorem e_par {i j : Nat} (q : Ens (mas ρ h) fun xs h1 => ∃ x y, xs = [x, y] ∧ S (.nx ((ρ.set i (some x)).set j (some y))) h1) : Ens (sPar i j mas ρ h) S := .bnd (q.mono fun xs h1 q => by obtain ⟨x, y, rfl, q⟩ := q; exact .ret q)
theorem e_gsub {o i : FE} {G : EnvM → HpM → Prop} (q : Ens (o ρ h) fun oo h1 => Ens (i ρ h1) fun ii h2 => ∃ k j xs q, oo = .ref k ∧ ii = .int j ∧ h2[k]? = some (.lst xs) ∧ ixN xs.length j = some q ∧ G ρ (h2.set k (.lst (xs.set q x)))) : Ens (gSubM o i x ρ h) G :=
  .bnd (q.mono fun oo h1 q => .bnd (q.mono fun ii h2 q => by
    obtain ⟨k, j, xs, q, rfl, rfl, e1, e2, q'⟩ := q
    exact ⟨ρ, _, by unfold onL; dsimp only; rw [e1]; dsimp only; rw [e2]; rfl, q'⟩))
theorem e_fun {n k : Nat} {ds : List M} (e : ds.length = n) (q : Ens (sa (ds.map some ++ List.replicate k none) h) (FQ R)) : Ens (mFun n k sa ds h) R := by
  unfold mFun
  rw [if_pos e]
  refine .bnd (q.mono fun o h1 q => ?_)
  cases o with
  | nx ρ' => exact .ret q
  | bk ρ' => exact q.elim
  | ct ρ' => exact q.elim
  | rt d => exact .ret q
noncomputable def LQ (I : EnvM → HpM → Prop) (S : Out → HpM → Prop) : Out → HpM → Prop
  | .nx ρ, h => I ρ h
  | .ct ρ, h => I ρ h
  | .bk ρ, h => S (.nx ρ) h
  | .rt d, h => S (.rt d) h
theorem e_loop {xs : List M} {bd : M → FS} (I : Nat → EnvM → HpM → Prop) : ∀ {l : List M} {i : Nat} {ρ : EnvM} {h : HpM}, l = xs.drop i → i ≤ xs.length → I i ρ h →
    (∀ i x ρ h, xs[i]? = some x → I i ρ h → Ens (bd x ρ h) (LQ (I (i + 1)) S)) → (∀ ρ h, I xs.length ρ h → S (.nx ρ) h) → Ens (mLoop xs none bd l ρ h) S
  | [], i, ρ, h, e, hi, hI, _, hd => by
    have : i = xs.length := by
      have := congrArg List.length e
      simp at this; omega
    subst this
    unfold mLoop
    rw [if_pos (show okS xs none h from trivial)]
    exact .ret (hd ρ h hI)
  | x :: r, i, ρ, h, e, hi, hI, hs, hd => by
    have hx : xs[i]? = some x := by
      have := congrArg (fun l : List M => l[0]?) e
      simpa using this.symm
    have hr : r = xs.drop (i + 1) := by
      have := congrArg List.tail e
      simpa using this
    have hlt : i < xs.length := (List.getElem?_eq_some_iff.mp hx).1
    unfold mLoop
    rw [if_pos (show okS xs none h from trivial)]
    refine .bnd ((hs i x ρ h hx hI).mono fun o h1 q => ?_)
    cases o with
    | nx ρ' => exact e_loop I hr hlt q hs hd
    | ct ρ' => exact e_loop I hr hlt q hs hd
    | bk ρ' => exact .ret q
    | rt d => exact .ret q
theorem e_for {i : FI} {g : FG} (q : Ens (i ρ h) fun s h1 => Ens (mLoop s.1 s.2 (fun x ρ h => L2.bnd (g x ρ h) fun ρ' h' => sa ρ' h') s.1 ρ h1) S) : Ens (sFor i g sa ρ h) S := .bnd q
theorem e_body {g : FG} (q : Ens (g x ρ h) fun ρ' h' => Ens (sa ρ' h') S) : Ens (L2.bnd (g x ρ h) fun ρ' h' => sa ρ' h') S := .bnd q
theorem e_over {xs : List M} {bd : M → FS} (I : Nat → EnvM → HpM → Prop) (h0 : I 0 ρ h) (hs : ∀ i x ρ h, xs[i]? = some x → I i ρ h → Ens (bd x ρ h) (LQ (I (i + 1)) S)) (hd : ∀ ρ h, I xs.length ρ h → S (.nx ρ) h) : Ens (mLoop xs none bd xs ρ h) S :=
  e_loop I (i := 0) (by simp) (Nat.zero_le _) h0 hs hd
abbrev SI := (List M × Option Nat) → HpM → Prop
theorem e_iL {s : SI} (q : Ens (ma ρ h) fun x h1 => ∃ xs, x = .lst xs ∧ s (xs, none) h1) : Ens (iL ma ρ h) s := .bnd (q.mono fun x h1 q => by obtain ⟨xs, rfl, q⟩ := q; exact .ret q)
theorem e_iT {s : SI} (q : Ens (ma ρ h) fun x h1 => ∃ xs, x = .tup xs ∧ s (xs, none) h1) : Ens (iT ma ρ h) s := .bnd (q.mono fun x h1 q => by obtain ⟨xs, rfl, q⟩ := q; exact .ret q)
theorem e_iS {s : SI} (q : Ens (ma ρ h) fun x h1 => ∃ z : Str, x = .str z ∧ s (z.cps.toList.map fun c => M.str ⟨#[c]⟩, none) h1) : Ens (iS ma ρ h) s := .bnd (q.mono fun x h1 q => by obtain ⟨xs, rfl, q⟩ := q; exact .ret q)
theorem e_iR1 {s : SI} (q : Ens (mas ρ h) fun xs h1 => ∃ j : Int, xs = [.int j] ∧ (-4611686018427387904 ≤ j ∧ j < 4611686018427387904) ∧ s ((List.range j.toNat).map fun (i : Nat) => M.int (i : Int), none) h1) : Ens (iR1 mas ρ h) s := .bnd (q.mono fun x h1 q => by
  obtain ⟨j, rfl, hj, q⟩ := q
  show Ens (if _ then _ else _) s
  rw [if_pos hj]; exact .ret q)
theorem e_comps {xs : List M} {g : FG} {c : FT} {e : FE} {τ : EnvM} {V : List M → HpM → Prop} (J : Nat → List M → HpM → Prop) : ∀ {l : List M} {i : Nat} {acc : List M} {h : HpM}, l = xs.drop i → i ≤ xs.length → J i acc h →
    (∀ i x acc h, xs[i]? = some x → J i acc h → Ens (g x τ h) fun τ' h1 => Ens (c τ' h1) fun t h2 => if t = true then Ens (e τ' h2) fun y h3 => J (i + 1) (acc ++ [y]) h3 else J (i + 1) acc h2) →
    (∀ acc h, J xs.length acc h → V acc h) → Ens (mComps xs none g c e τ l h) fun ys h' => V (acc ++ ys) h'
  | [], i, acc, h, e, hi, hJ, _, hd => by
    have : i = xs.length := by
      have := congrArg List.length e
      simp at this; omega
    subst this
    unfold mComps
    rw [if_pos (show okS xs none h from trivial)]
    refine .ret ?_
    rw [List.append_nil]
    exact hd acc h hJ
  | x :: r, i, acc, h, e, hi, hJ, hs, hd => by
    have hx : xs[i]? = some x := by
      have := congrArg (fun l : List M => l[0]?) e
      simpa using this.symm
    have hr : r = xs.drop (i + 1) := by
      have := congrArg List.tail e
      simpa using this
    have hlt : i < xs.length := (List.getElem?_eq_some_iff.mp hx).1
    unfold mComps
    rw [if_pos (show okS xs none h from trivial)]
    refine .bnd ((hs i x acc h hx hJ).mono fun τ' h1 q => .bnd (q.mono fun t h2 q => ?_))
    cases t with
    | false => exact e_comps J hr hlt q hs hd
    | true =>
      refine .bnd (q.mono fun y h3 q => .bnd ((e_comps J hr hlt q hs hd).mono fun ys h4 q => .ret ?_))
      simpa using q
theorem e_comp {ix : List (Option Nat)} {i : FI} {g : FG} {c : FT} {e : FE} (q : Ens (i ρ h) fun s h1 => s.1.length ≤ 16777216 ∧ Ens (mComps s.1 s.2 g c e (tauM ix ρ) s.1 h1) fun ys h2 => R (.lst ys) h2) : Ens (mComp ix i g c e ρ h) R :=
  .bnd (q.mono fun s h1 q => by rw [if_pos q.1]; exact .bnd (q.2.mono fun ys h2 q => .ret q))
theorem e_over2 {xs : List M} {g : FG} {c : FT} {e : FE} {τ : EnvM} {V : List M → HpM → Prop} (J : Nat → List M → HpM → Prop) (h0 : J 0 [] h)
    (hs : ∀ i x acc h, xs[i]? = some x → J i acc h → Ens (g x τ h) fun τ' h1 => Ens (c τ' h1) fun t h2 => if t = true then Ens (e τ' h2) fun y h3 => J (i + 1) (acc ++ [y]) h3 else J (i + 1) acc h2)
    (hd : ∀ acc h, J xs.length acc h → V acc h) : Ens (mComps xs none g c e τ xs h) V := (e_comps (V := V) J (i := 0) (acc := []) (by simp) (Nat.zero_le _) h0 hs hd).mono fun ys h q => by simpa using q
end
section
variable {R : M → Prop} {h : HpM}
theorem p_addI {i j : Int} (q : R (.int (i + j))) : Enp (opAdd (.int i) (.int j) h) R := ⟨_, rfl, q⟩
theorem p_subI {i j : Int} (q : R (.int (i - j))) : Enp (opSub (.int i) (.int j) h) R := ⟨_, rfl, q⟩
theorem p_mulI {i j : Int} (e : (-18446744073709551616 < i ∧ i < 18446744073709551616) ∨ (-18446744073709551616 < j ∧ j < 18446744073709551616)) (q : R (.int (i * j))) : Enp (opMul (.int i) (.int j) h) R := ⟨_, if_pos e, q⟩
theorem p_mod {i j : Int} (e : 0 < j) (q : R (.int (i % j))) : Enp (opMod (.int i) (.int j) h) R := ⟨_, if_pos e, q⟩
theorem p_div {i j : Int} (e : 0 < j ∧ j < 1073741824) (q : R (.int (i / j))) : Enp (opDiv (.int i) (.int j) h) R := ⟨_, if_pos e, q⟩
theorem p_pow {i j : Int} (e : 0 ≤ j ∧ j ≤ 1000000 ∧ i.natAbs < 18446744073709551616) (q : R (.int (i ^ j.toNat))) : Enp (opPow (.int i) (.int j) h) R := ⟨_, if_pos e, q⟩
theorem p_ltI {i j : Int} (q : R (.bl (decide (i < j)))) : Enp (opLt (.int i) (.int j) h) R := ⟨_, rfl, q⟩
theorem p_leI {i j : Int} (q : R (.bl (decide (i ≤ j)))) : Enp (opLe (.int i) (.int j) h) R := ⟨_, rfl, q⟩
theorem p_gtI {i j : Int} (q : R (.bl (decide (j < i)))) : Enp (opGt (.int i) (.int j) h) R := ⟨_, rfl, q⟩
theorem p_geI {i j : Int} (q : R (.bl (decide (j ≤ i)))) : Enp (opGe (.int i) (.int j) h) R := ⟨_, rfl, q⟩
theorem p_eqI {i j : Int} (q : R (.bl (i == j))) : Enp (opEq (.int i) (.int j) h) R := ⟨_, rfl, q⟩
theorem p_neI {i j : Int} (q : R (.bl (!(i == j)))) : Enp (opNe (.int i) (.int j) h) R := ⟨_, rfl, q⟩
theorem p_eqS {i j : Str} (q : R (.bl (i == j))) : Enp (opEq (.str i) (.str j) h) R := ⟨_, rfl, q⟩
theorem p_neS {i j : Str} (q : R (.bl (!(i == j)))) : Enp (opNe (.str i) (.str j) h) R := ⟨_, rfl, q⟩
theorem p_neB {i j : Bool} (q : R (.bl (!(i == j)))) : Enp (opNe (.bl i) (.bl j) h) R := ⟨_, rfl, q⟩
theorem p_isN {x : M} (q : R (.bl (isN x))) : Enp (opIs x .non h) R := ⟨_, rfl, q⟩
theorem p_isNotN {x : M} (q : R (.bl (!isN x))) : Enp (opIsNot x .non h) R := ⟨_, rfl, q⟩
theorem p_isB {i j : Bool} (q : R (.bl (i == j))) : Enp (opIs (.bl i) (.bl j) h) R := ⟨_, rfl, q⟩
theorem p_neg {i : Int} (q : R (.int (-i))) : Enp (opNeg (.int i) h) R := ⟨_, rfl, q⟩
theorem p_abs {i : Int} (q : R (.int (if i < 0 then -i else i))) : Enp (bAbs [.int i] h) R := ⟨_, rfl, q⟩
theorem p_intB {i : Bool} (q : R (.int (if i then 1 else 0))) : Enp (bInt [.bl i] h) R := ⟨_, rfl, q⟩
theorem p_max {i j : Int} (q : R (.int (if j > i then j else i))) : Enp (bMax [.int i, .int j] h) R := ⟨_, rfl, q⟩
theorem p_lenL {xs : List M} (q : R (.int xs.length)) : Enp (bLen [.lst xs] h) R := ⟨_, rfl, q⟩
theorem p_lenT {xs : List M} (q : R (.int xs.length)) : Enp (bLen [.tup xs] h) R := ⟨_, rfl, q⟩
theorem p_lenS {z : Str} (e : z.length ≤ 16777216) (q : R (.int z.length)) : Enp (bLen [.str z] h) R := ⟨_, if_pos e, q⟩
theorem p_ixR {xs : List M} {k : Nat} {i : Int} {d : M} (e0 : h[k]? = some (.lst xs)) (e : atI xs i = some d) (q : R d) : Enp (ixM (.ref k) (.int i) h) R := ⟨d, by
  unfold ixM
  rw [show dctOf h (.ref k) = none by show (match h[k]? with | some (.dct kvs) => some kvs | _ => none) = none; rw [e0]]
  show (seqR h (.ref k)).bind _ = _; rw [show seqR h (.ref k) = some xs by show (match h[k]? with | some (.lst xs) => some xs | _ => none) = some xs; rw [e0]]; exact e, q⟩
theorem p_addL {xs ys : List M} (e : xs.length + ys.length ≤ 16777216) (q : R (.lst (xs ++ ys))) : Enp (opAdd (.lst xs) (.lst ys) h) R := ⟨_, by show (if _ then _ else _) = _; rw [if_pos e], q⟩
theorem p_addT {xs ys : List M} (e : xs.length + ys.length ≤ 16777216) (q : R (.tup (xs ++ ys))) : Enp (opAdd (.tup xs) (.tup ys) h) R := ⟨_, by show (if _ then _ else _) = _; rw [if_pos e], q⟩
theorem p_slC {ns : List Int} {lo hi : Option Int} (q : R (.lst (cutM (ns.map M.int) lo hi))) : Enp (slM (.scr ns) lo hi h) R := ⟨_, rfl, q⟩
theorem p_slT {xs : List M} {lo hi : Option Int} (q : R (.tup (cutM xs lo hi))) : Enp (slM (.tup xs) lo hi h) R := ⟨_, rfl, q⟩
theorem p_inst {x : M} {c : String} (e : tyM h x ≠ "") (e2 : okTy c = true) (q : R (.bl (instB (tyM h x) c))) : Enp (bInst [x, .ty c] h) R := ⟨_, if_pos ⟨e, e2⟩, q⟩
end
theorem ite_b {A B : Prop} {c : Bool} (h1 : c = true → A) (h2 : c = false → B) : if c = true then A else B := by cases c; exact h2 rfl; exact h1 rfl
theorem ite_t {A B : Prop} (h : A) : if (true = true) then A else B := h
theorem ite_f {A B : Prop} (h : B) : if (false = true) then A else B := h
end L2
set_option Elab.async false
set_option linter.all false
namespace L2
open PySem
section
variable {R : M → Prop} {h : HpM}
theorem pi_non_str  (q : R (.bl false)) : Enp (bInst [.non, .ty "str"] h) R := p_inst (by show "NoneType" ≠ ""; decide) (by decide) (by rw [show instB (tyM h .non) "str" = false from (by show instB "NoneType" "str" = _; decide)]; exact q)
theorem pi_non_int  (q : R (.bl false)) : Enp (bInst [.non, .ty "int"] h) R := p_inst (by show "NoneType" ≠ ""; decide) (by decide) (by rw [show instB (tyM h .non) "int" = false from (by show instB "NoneType" "int" = _; decide)]; exact q)
theorem pi_non_tuple  (q : R (.bl false)) : Enp (bInst [.non, .ty "tuple"] h) R := p_inst (by show "NoneType" ≠ ""; decide) (by decide) (by rw [show instB (tyM h .non) "tuple" = false from (by show instB "NoneType" "tuple" = _; decide)]; exact q)
theorem pi_bl_str {x : Bool} (q : R (.bl false)) : Enp (bInst [(.bl x), .ty "str"] h) R := p_inst (by show "bool" ≠ ""; decide) (by decide) (by rw [show instB (tyM h (.bl x)) "str" = false from (by show instB "bool" "str" = _; decide)]; exact q)
theorem pi_bl_int {x : Bool} (q : R (.bl true)) : Enp (bInst [(.bl x), .ty "int"] h) R := p_inst (by show "bool" ≠ ""; decide) (by decide) (by rw [show instB (tyM h (.bl x)) "int" = true from (by show instB "bool" "int" = _; decide)]; exact q)
theorem pi_bl_bool {x : Bool} (q : R (.bl true)) : Enp (bInst [(.bl x), .ty "bool"] h) R := p_inst (by show "bool" ≠ ""; decide) (by decide) (by rw [show instB (tyM h (.bl x)) "bool" = true from (by show instB "bool" "bool" = _; decide)]; exact q)
theorem pi_bl_tuple {x : Bool} (q : R (.bl false)) : Enp (bInst [(.bl x), .ty "tuple"] h) R := p_inst (by show "bool" ≠ ""; decide) (by decide) (by rw [show instB (tyM h (.bl x)) "tuple" = false from (by show instB "bool" "tuple" = _; decide)]; exact q)
theorem pi_int_str {x : Int} (q : R (.bl false)) : Enp (bInst [(.int x), .ty "str"] h) R := p_inst (by show "int" ≠ ""; decide) (by decide) (by rw [show instB (tyM h (.int x)) "str" = false from (by show instB "int" "str" = _; decide)]; exact q)
theorem pi_int_int {x : Int} (q : R (.bl true)) : Enp (bInst [(.int x), .ty "int"] h) R := p_inst (by show "int" ≠ ""; decide) (by decide) (by rw [show instB (tyM h (.int x)) "int" = true from (by show instB "int" "int" = _; decide)]; exact q)
theorem pi_int_bool {x : Int} (q : R (.bl false)) : Enp (bInst [(.int x), .ty "bool"] h) R := p_inst (by show "int" ≠ ""; decide) (by decide) (by rw [show instB (tyM h (.int x)) "bool" = false from (by show instB "int" "bool" = _; decide)]; exact q)
theorem pi_int_tuple {x : Int} (q : R (.bl false)) : Enp (bInst [(.int x), .ty "tuple"] h) R := p_inst (by show "int" ≠ ""; decide) (by decide) (by rw [show instB (tyM h (.int x)) "tuple" = false from (by show instB "int" "tuple" = _; decide)]; exact q)
theorem pi_str_str {x : Str} (q : R (.bl true)) : Enp (bInst [(.str x), .ty "str"] h) R := p_inst (by show "str" ≠ ""; decide) (by decide) (by rw [show instB (tyM h (.str x)) "str" = true from (by show instB "str" "str" = _; decide)]; exact q)
theorem pi_str_int {x : Str} (q : R (.bl false)) : Enp (bInst [(.str x), .ty "int"] h) R := p_inst (by show "str" ≠ ""; decide) (by decide) (by rw [show instB (tyM h (.str x)) "int" = false from (by show instB "str" "int" = _; decide)]; exact q)
theorem pi_str_tuple {x : Str} (q : R (.bl false)) : Enp (bInst [(.str x), .ty "tuple"] h) R := p_inst (by show "str" ≠ ""; decide) (by decide) (by rw [show instB (tyM h (.str x)) "tuple" = false from (by show instB "str" "tuple" = _; decide)]; exact q)
theorem pi_tup_str {x : List M} (q : R (.bl false)) : Enp (bInst [(.tup x), .ty "str"] h) R := p_inst (by show "tuple" ≠ ""; decide) (by decide) (by rw [show instB (tyM h (.tup x)) "str" = false from (by show instB "tuple" "str" = _; decide)]; exact q)
theorem pi_tup_int {x : List M} (q : R (.bl false)) : Enp (bInst [(.tup x), .ty "int"] h) R := p_inst (by show "tuple" ≠ ""; decide) (by decide) (by rw [show instB (tyM h (.tup x)) "int" = false from (by show instB "tuple" "int" = _; decide)]; exact q)
theorem pi_tup_tuple {x : List M} (q : R (.bl true)) : Enp (bInst [(.tup x), .ty "tuple"] h) R := p_inst (by show "tuple" ≠ ""; decide) (by decide) (by rw [show instB (tyM h (.tup x)) "tuple" = true from (by show instB "tuple" "tuple" = _; decide)]; exact q)
theorem pi_lst_str {x : List M} (q : R (.bl false)) : Enp (bInst [(.lst x), .ty "str"] h) R := p_inst (by show "list" ≠ ""; decide) (by decide) (by rw [show instB (tyM h (.lst x)) "str" = false from (by show instB "list" "str" = _; decide)]; exact q)
theorem pi_lst_int {x : List M} (q : R (.bl false)) : Enp (bInst [(.lst x), .ty "int"] h) R := p_inst (by show "list" ≠ ""; decide) (by decide) (by rw [show instB (tyM h (.lst x)) "int" = false from (by show instB "list" "int" = _; decide)]; exact q)
theorem pi_lst_tuple {x : List M} (q : R (.bl false)) : Enp (bInst [(.lst x), .ty "tuple"] h) R := p_inst (by show "list" ≠ ""; decide) (by decide) (by rw [show instB (tyM h (.lst x)) "tuple" = false from (by show instB "list" "tuple" = _; decide)]; exact q)
theorem ite_nT {A B : Prop} (h : B) : if (!true) = true then A else B := h
theorem p_isNotTT (q : R (.bl false)) : Enp (opIsNot (.bl true) (.bl true) h) R := ⟨_, rfl, q⟩
theorem ite_nF {A B : Prop} (h : A) : if (!false) = true then A else B := h
theorem e_lqN {I : EnvM → HpM → Prop} {S : Out → HpM → Prop} {ρ : EnvM} (q : I ρ h) : LQ I S (.nx ρ) h := q
theorem e_lqR {I : EnvM → HpM → Prop} {S : Out → HpM → Prop} {d : M} (q : S (.rt d) h) : LQ I S (.rt d) h := q
end
end L2
set_option Elab.async false
set_option linter.all false
set_option maxRecDepth 100000
namespace L2
open PySem PySem.Spec PyProof.Rows
section
variable {X : Cx} {K : PySem.W.Frag} {a b e : Expr} {es : List Expr} {ma mb : FE} {mas : FA} {pos p : Pos}
noncomputable def mListH (a : FA) : FE := fun ρ h => bnd (a ρ h) fun xs h1 => match xs with
  | [.tup ys] => some (.ref h1.length, h1 ++ [.lst ys])
  | [x] => (seqR h1 x).map fun ys => (.ref h1.length, h1 ++ [.lst ys])
  | _ => none
theorem allocL {α : Pl} {h : HpM} {H : Hp} {l : Addr} {ys : List M} {vs : List V} {Q : VK} (hr : Rl K α h H) (hl : H l = none) (rs : RepAs K α H ys vs) (k : ∀ α' H' w, Ev α α' H H' → Rl K α' (h ++ [.lst ys]) H' → RepA K α' H' (.ref h.length) w → Q w H') : Q (.ref l) (upd H l (.lst vs)) := by
  have ea : Ev α (α.add l) H (upd H l (.lst vs)) := .alloc hl
  exact k (α.add l) _ _ ea (hr.alloc hl ⟨vs, upd_same, rs.ev ea⟩) ⟨l, by rw [← hr.len]; simp [Pl.add], rfl⟩
theorem me_listH {x : Str} (q : NmOk X.env.scope x .globalImplicit) (hm : X.mg x = none) (hv : bootBuiltins x = some (.type "list")) (ha : PA X (e :: es) (aM X.K mas)) (he : notStar e = true) (hpl : (backTo pos (starEach es X.env)).any (·.1) = false) :
    PE X (.Call (.Name x p) (e :: es) [] pos) (tM X.K (mListH mas)) := (pe_callTyk call_list_of q hm hv ha he hpl).imp <| by
  rintro σ H Q ⟨α, ρ, h, d, h', hσ, hr, e, k⟩
  obtain ⟨xs, h0, e0, e⟩ := bnd_inv e
  split at e
  · cases e
    refine ⟨α, ρ, h, _, _, hσ, hr, e0, fun α1 H1 us ev1 hr1 rs => ?_⟩
    obtain ⟨u, rfl, a, vs, rfl, t, rv⟩ := rep1 rs
    exact ⟨a, vs, rfl, .inr t.sq, fun l hl => allocL hr1 hl rv fun α' H' w ev hr' rw => k α' H' w (ev1.trans ev) hr' rw⟩
  · obtain ⟨ys, e1, e2⟩ := Option.map_eq_some_iff.mp e
    cases e2
    refine ⟨α, ρ, h, _, _, hσ, hr, e0, fun α1 H1 us ev1 hr1 rs => ?_⟩
    obtain ⟨u, rfl, ru⟩ := rep1 rs
    obtain ⟨a, vs, rfl, ha, rv⟩ := seqR_rep hr1 ru e1
    exact ⟨a, vs, rfl, .inl ha, fun l hl => allocL hr1 hl rv fun α' H' w ev hr' rw => k α' H' w (ev1.trans ev) hr' rw⟩
  · cases e
theorem const_tup {a : Addr} {ds : List M} {vs : List V} {us : List Value} {n : Nat} {dd : Option Addr} {sl : Array (Option Value)} (hl : K.lookup a = some { cls := .type "tuple", dict := dd, data := .seq us.toArray n, slots := sl }) (hz : us.length ≤ 1000) (hv : Vals vs us) (hr : ∀ α H, RepAs K α H ds vs) : ConstM K (.tup ds) (.ref a) :=
  ⟨.ref a, rfl, fun α H => ⟨a, vs, rfl, .inr ⟨_, us.toArray, n, hl, rfl, rfl, by rw [List.size_toArray, sizeLine_eq]; omega, by simpa using hv⟩, hr α H⟩⟩
theorem const_cons {d : M} {u : Value} {ds : List M} {us : List Value} (h : ConstM K d u) (hs : ∃ vs, Vals vs us ∧ ∀ α H, RepAs K α H ds vs) : ∃ vs, Vals vs (u :: us) ∧ ∀ α H, RepAs K α H (d :: ds) vs := by
  obtain ⟨v, r, q⟩ := h
  obtain ⟨vs, rs, qs⟩ := hs
  exact ⟨v :: vs, .cons r rs, fun α H => ⟨v, vs, rfl, q α H, qs α H⟩⟩
theorem const_nil : ∃ vs, Vals vs [] ∧ ∀ α H, RepAs K α H [] vs := ⟨[], .nil, fun _ _ => rfl⟩
theorem const_of {a : Addr} {ds : List M} {us : List Value} {n : Nat} {dd : Option Addr} {sl : Array (Option Value)} (hl : K.lookup a = some { cls := .type "tuple", dict := dd, data := .seq us.toArray n, slots := sl }) (hz : us.length ≤ 1000) (h : ∃ vs, Vals vs us ∧ ∀ α H, RepAs K α H ds vs) : ConstM K (.tup ds) (.ref a) := by
  obtain ⟨vs, hv, hr⟩ := h
  exact const_tup hl hz hv hr
theorem const_int {i : Int} {t : Tok} : ConstM K (.int i) (.int i t) := ⟨.int i, ⟨t, rfl⟩, fun _ _ => rfl⟩
theorem const_str {z : Str} {t : Tok} : ConstM K (.str z) (.str z t) := ⟨.str z, ⟨t, rfl⟩, fun _ _ => rfl⟩
end
end L2
set_option Elab.async false
set_option linter.all false
set_option maxRecDepth 100000
namespace L2
open PySem PySem.Spec PyProof.Rows
structure Cal (P : Program) (w : World) (K : PySem.W.Frag) (mg : Str → Option Value) (base : Heap) (n : Nat) (x : Str) (m : FF) : Prop where
  ex : ∃ f fd ps, FnOk P w K mg base CX0 n f fd ps (spM K m) ∧ mg x = some (.ref f) ∧ PySem.W.keepIn K (.ref f) = true ∧ Binds K fd ps []
theorem Cal.of {P : Program} {w : World} {K : PySem.W.Frag} {mg : Str → Option Value} {base : Heap} {n : Nat} {x : Str} {m : FF} {f : Addr} {fd : FuncData} {ps : List Str} (F : FnOk P w K mg base CX0 n f fd ps (spM K m)) (h1 : mg x = some (.ref f)) (h2 : PySem.W.keepIn K (.ref f) = true) (h3 : Binds K fd ps []) : Cal P w K mg base n x m := ⟨f, fd, ps, F, h1, h2, h3⟩
section
variable {X : Cx} {e : Expr} {es : List Expr} {mas : FA} {pos p : Pos} {n : Nat} {x : Str} {m : FF}
theorem me_cal (C : Cal X.prog X.w X.K X.mg X.base n x m) (hr : Room n X.A) (q : NmOk X.env.scope x .globalImplicit) (ha : PA X (e :: es) (aM X.K mas)) (he : notStar e = true) (hpl : (backTo pos (starEach es X.env)).any (·.1) = false) : PE X (.Call (.Name x p) (e :: es) [] pos) (tM X.K (mCall m mas)) := by
  obtain ⟨f, fd, ps, F, h1, h2, h3⟩ := C.ex
  exact me_call F hr q h1 h2 h3 pass0 ha he hpl
end
end L2
set_option Elab.async false
set_option linter.all false
set_option maxRecDepth 100000
namespace L2
open PySem
def Kp (p : Nat) (h h' : HpM) : Prop := h'.length = h.length ∧ ∀ q, q ≠ p → h'[q]? = h[q]?
theorem Kp.set {p : Nat} {h : HpM} {o : MO} : Kp p h (h.set p o) := ⟨by simp, fun q hq => List.getElem?_set_ne (Ne.symm hq)⟩
theorem set_at {p : Nat} {h : HpM} {o o' : MO} (e : h[p]? = some o) : (h.set p o')[p]? = some o' := List.getElem?_set_self (List.getElem?_eq_some_iff.mp e).1
theorem e_put {o i : FE} {x : M} {ρ : EnvM} {h : HpM} {G : EnvM → HpM → Prop} {k : Nat} {j : Int} {xs : List M} {n : Nat} (ho : o ρ h = some (.ref k, h)) (hi : i ρ h = some (.int j, h)) (e1 : h[k]? = some (.lst xs)) (e2 : ixN xs.length j = some n)
    (q : ∀ h', h'[k]? = some (.lst (xs.set n x)) → Kp k h h' → G ρ h') : Ens (gSubM o i x ρ h) G :=
  e_gsub ⟨_, _, ho, _, _, hi, k, j, xs, n, rfl, rfl, e1, e2, q _ (set_at e1) Kp.set⟩
theorem join {x : Option (Out × HpM)} {S : Out → HpM → Prop} (J : Out → HpM → Prop) (h1 : Ens x J) (h2 : ∀ o h, J o h → S o h) : Ens x S := h1.mono h2
theorem take_succ' {α : Type} {l : List α} {i : Nat} {x : α} (h : l[i]? = some x) : l.take (i + 1) = l.take i ++ [x] := by rw [List.take_add_one, h]; rfl
theorem cut_to {xs : List M} {k : Nat} (hk : k ≤ xs.length) : cutM xs none (some (k : Int)) = xs.take k := by
  unfold cutM; rw [HT.sIx_none, HT.sIx_nat, Nat.min_eq_left hk]; simp
theorem cut_from {xs : List M} {k : Nat} (hk : k ≤ xs.length) : cutM xs (some (k : Int)) none = xs.drop k := by
  unfold cutM; rw [HT.sIx_none, HT.sIx_nat, Nat.min_eq_left hk]
  rw [List.take_of_length_le (by rw [List.length_drop]; exact Nat.le_refl _)]
theorem ens_eq {a : Type} {x : Option (a × HpM)} {y : a} {h : HpM} {Q : a → HpM → Prop} (e : x = some (y, h)) (q : Q y h) : Ens x Q := ⟨y, h, e, q⟩
noncomputable def pureB : Nat → M → Bool
  | _, .non => true
  | _, .bl _ => true
  | _, .int _ => true
  | _, .str z => decide (z.length ≤ 100)
  | k + 1, .tup xs => decide (xs.length ≤ 1000) && xs.all (pureB k)
  | k + 1, .lst xs => decide (xs.length ≤ 1000) && xs.all (pureB k)
  | _, _ => false
def Pu (k : Nat) (x : M) : Prop := pureB k x = true
theorem Pu.tup {k : Nat} {xs : List M} (hl : xs.length ≤ 1000) (h : ∀ y ∈ xs, Pu k y) : Pu (k + 1) (.tup xs) := by
  show (decide (xs.length ≤ 1000) && xs.all (pureB k)) = true
  rw [Bool.and_eq_true, List.all_eq_true]; exact ⟨decide_eq_true hl, h⟩
theorem Pu.lst {k : Nat} {xs : List M} (hl : xs.length ≤ 1000) (h : ∀ y ∈ xs, Pu k y) : Pu (k + 1) (.lst xs) := by
  show (decide (xs.length ≤ 1000) && xs.all (pureB k)) = true
  rw [Bool.and_eq_true, List.all_eq_true]; exact ⟨decide_eq_true hl, h⟩
theorem Pu.un {k : Nat} {xs : List M} (h : Pu (k + 1) (.tup xs)) : ∀ y ∈ xs, Pu k y := by
  have : (decide (xs.length ≤ 1000) && xs.all (pureB k)) = true := h
  rw [Bool.and_eq_true, List.all_eq_true] at this; exact this.2
theorem Pu.tupl {k : Nat} {xs : List M} (h : Pu k (.tup xs)) : xs.length ≤ 1000 := by
  cases k with
  | zero => cases h
  | succ k =>
    have : (decide (xs.length ≤ 1000) && xs.all (pureB k)) = true := h
    rw [Bool.and_eq_true] at this; exact of_decide_eq_true this.1
theorem Pu.unL {k : Nat} {xs : List M} (h : Pu (k + 1) (.lst xs)) : ∀ y ∈ xs, Pu k y := by
  have : (decide (xs.length ≤ 1000) && xs.all (pureB k)) = true := h
  rw [Bool.and_eq_true, List.all_eq_true] at this; exact this.2
theorem Pu.lstl {k : Nat} {xs : List M} (h : Pu k (.lst xs)) : xs.length ≤ 1000 := by
  cases k with
  | zero => cases h
  | succ k =>
    have : (decide (xs.length ≤ 1000) && xs.all (pureB k)) = true := h
    rw [Bool.and_eq_true] at this; exact of_decide_eq_true this.1
theorem Pu.zero {xs : List M} (h : Pu 0 (.tup xs)) : False := by cases h
theorem Pu.mono1 : ∀ {k : Nat} {x : M}, Pu k x → Pu (k + 1) x
  | 0, .non, _ => rfl
  | 0, .bl _, _ => rfl
  | 0, .int _, _ => rfl
  | 0, .str _, h => h
  | 0, .tup _, h => by cases h
  | 0, .lst _, h => by cases h
  | 0, .dct _ _, h => by cases h
  | 0, .ref _, h => by cases h
  | 0, .scr _, h => by cases h
  | 0, .ty _, h => by cases h
  | k + 1, .non, _ => rfl
  | k + 1, .bl _, _ => rfl
  | k + 1, .int _, _ => rfl
  | k + 1, .str _, h => h
  | k + 1, .tup xs, h => Pu.tup h.tupl fun y hy => (h.un y hy).mono1
  | k + 1, .lst xs, h => Pu.lst h.lstl fun y hy => (h.unL y hy).mono1
  | k + 1, .dct _ _, h => by cases h
  | k + 1, .ref _, h => by cases h
  | k + 1, .scr _, h => by cases h
  | k + 1, .ty _, h => by cases h
theorem Pu.mono {k m : Nat} {x : M} (h : Pu k x) (hm : k ≤ m) : Pu m x := by
  induction hm with
  | refl => exact h
  | step _ ih => exact ih.mono1
theorem Pu.str {k : Nat} {z : Str} (h : z.length ≤ 100) : Pu k (.str z) := by cases k <;> exact decide_eq_true h
theorem Pu.int {k : Nat} {i : Int} : Pu k (.int i) := by cases k <;> rfl
theorem Pu.bl {k : Nat} {i : Bool} : Pu k (.bl i) := by cases k <;> rfl
theorem Pu.non {k : Nat} : Pu k .non := by cases k <;> rfl
theorem Pu.len {k : Nat} {z : Str} (h : Pu k (.str z)) : z.length ≤ 100 := by cases k <;> exact of_decide_eq_true h
theorem Pu.toD : ∀ {k : Nat} {x : M} (h : HpM), Pu k x → ∃ d, L2.toD h x = some d ∧ d.deep ≤ k ∧ match x with | .str z => d = .str z | .int i => d = .int i | .bl b => d = .bl b | .non => d = .non | .tup xs => ∃ ds, d = .tup ds | .lst xs => ∃ ds, d = .lst ds | _ => False
  | k, .non, h, _ => ⟨_, rfl, Nat.zero_le _, rfl⟩
  | k, .bl _, h, _ => ⟨_, rfl, Nat.zero_le _, rfl⟩
  | k, .int _, h, _ => ⟨_, rfl, Nat.zero_le _, rfl⟩
  | k, .str _, h, _ => ⟨_, rfl, Nat.zero_le _, rfl⟩
  | 0, .tup _, h, p => by cases p
  | 0, .lst _, h, p => by cases p
  | k + 1, .tup xs, h, p => by
    have hs : ∀ ys : List M, (∀ y ∈ ys, Pu k y) → ∃ ds, toDBs (lookD h 20) ys = some ds ∧ D.deeps ds ≤ k := by
      intro ys
      induction ys with
      | nil => exact fun _ => ⟨[], rfl, Nat.zero_le _⟩
      | cons y ys ih =>
        intro hy
        obtain ⟨d, e, dd, _⟩ := Pu.toD (k := k) (x := y) h (hy y List.mem_cons_self)
        obtain ⟨ds, es, dds⟩ := ih fun z hz => hy z (List.mem_cons_of_mem _ hz)
        refine ⟨d :: ds, ?_, Nat.max_le.mpr ⟨dd, dds⟩⟩
        unfold toDBs
        rw [show toDB (lookD h 20) y = some d from e, Option.bind_some, es]; rfl
    obtain ⟨ds, e, dd⟩ := hs xs p.un
    refine ⟨.tup ds, ?_, Nat.succ_le_succ dd, ds, rfl⟩
    show (toDBs (lookD h 20) xs).map D.tup = _
    rw [e]; rfl
  | k + 1, .lst xs, h, p => by
    have hs : ∀ ys : List M, (∀ y ∈ ys, Pu k y) → ∃ ds, toDBs (lookD h 20) ys = some ds ∧ D.deeps ds ≤ k := by
      intro ys
      induction ys with
      | nil => exact fun _ => ⟨[], rfl, Nat.zero_le _⟩
      | cons y ys ih =>
        intro hy
        obtain ⟨d, e, dd, _⟩ := Pu.toD (k := k) (x := y) h (hy y List.mem_cons_self)
        obtain ⟨ds, es, dds⟩ := ih fun z hz => hy z (List.mem_cons_of_mem _ hz)
        refine ⟨d :: ds, ?_, Nat.max_le.mpr ⟨dd, dds⟩⟩
        unfold toDBs
        rw [show toDB (lookD h 20) y = some d from e, Option.bind_some, es]; rfl
    obtain ⟨ds, e, dd⟩ := hs xs p.unL
    refine ⟨.lst ds, ?_, Nat.succ_le_succ dd, ds, rfl⟩
    show (toDBs (lookD h 20) xs).map D.lst = _
    rw [e]; rfl
  | 0, .dct _ _, h, p => by cases p
  | 0, .ref _, h, p => by cases p
  | 0, .scr _, h, p => by cases p
  | 0, .ty _, h, p => by cases p
  | k + 1, .dct _ _, h, p => by cases p
  | k + 1, .ref _, h, p => by cases p
  | k + 1, .scr _, h, p => by cases p
  | k + 1, .ty _, h, p => by cases p
noncomputable def isTx (s : Str) : M → Bool
  | .str z => z == s
  | _ => false
noncomputable def inTx (ss : List Str) : M → Bool
  | .str z => ss.any (· == z)
  | _ => false
section
variable {R : M → Prop} {h : HpM} {k : Nat} {x : M}
theorem p_eqT {s : Str} (hx : Pu k x) (hk : k ≤ 150) (q : R (.bl (isTx s x))) : Enp (opEq x (.str s) h) R := by
  obtain ⟨d, e, dd, sh⟩ := hx.toD h
  refine ⟨.bl (isTx s x), ?_, q⟩
  unfold opEq
  rw [e, Option.bind_some]
  show (if d.deep ≤ 150 then some (M.bl (deq d (.str s))) else none) = _
  rw [if_pos (by omega)]
  cases x with
  | non => cases (show d = _ from sh); rfl
  | bl _ => cases (show d = _ from sh); rfl
  | int _ => cases (show d = _ from sh); rfl
  | str _ => cases (show d = _ from sh); rfl
  | tup _ => obtain ⟨ds, rfl⟩ := sh; rfl
  | lst _ => obtain ⟨ds, rfl⟩ := sh; rfl
  | _ => exact sh.elim
theorem anyTx {d : D} : ∀ {ss : List Str}, (match x with | .str z => d = .str z | .int i => d = .int i | .bl b => d = .bl b | .non => d = .non | .tup xs => ∃ ds, d = .tup ds | .lst xs => ∃ ds, d = .lst ds | _ => False) → ((ss.map D.str).any fun e => deq e d) = inTx ss x
  | [], sh => by
    cases x <;> first | rfl | exact sh.elim
  | s :: ss, sh => by
    rw [List.map_cons, List.any_cons, anyTx (ss := ss) sh]
    cases x with
    | non => cases (show d = _ from sh); rfl
    | bl _ => cases (show d = _ from sh); rfl
    | int _ => cases (show d = _ from sh); rfl
    | str _ => cases (show d = _ from sh); rfl
    | tup _ => obtain ⟨ds, rfl⟩ := sh; rfl
    | lst _ => obtain ⟨ds, rfl⟩ := sh; rfl
    | _ => exact sh.elim
theorem toDs_strs : ∀ (ss : List Str), toDs h (ss.map M.str) = some (ss.map D.str)
  | [] => rfl
  | s :: ss => by
    show (toDB (lookD h 20) (M.str s)).bind (fun d => (toDBs (lookD h 20) (ss.map M.str)).map (d :: ·)) = _
    rw [show toDBs (lookD h 20) (ss.map M.str) = some (ss.map D.str) from toDs_strs ss]; rfl
theorem deeps_strs : ∀ (ss : List Str), D.deeps (ss.map D.str) = 0
  | [] => rfl
  | s :: ss => by rw [List.map_cons, D.deeps, deeps_strs ss]; rfl
theorem anyD_tx {ss : List Str} {f : Bool → M} (hx : Pu k x) : anyD x (ss.map M.str) h f = some (f (inTx ss x)) := by
  obtain ⟨d, e, dd, sh⟩ := hx.toD h
  unfold anyD
  rw [toDs_strs, Option.bind_some, e, Option.bind_some, if_pos (by rw [deeps_strs]; omega), anyTx sh]
theorem p_inT {ss : List Str} (hx : Pu k x) (q : R (.bl (inTx ss x))) : Enp (opIn x (.tup (ss.map M.str)) h) R := ⟨_, anyD_tx hx, q⟩
theorem p_notInT {ss : List Str} (hx : Pu k x) (q : R (.bl (!inTx ss x))) : Enp (opNotIn x (.tup (ss.map M.str)) h) R := ⟨.bl (!inTx ss x), anyD_tx (f := fun b => .bl (!b)) hx, q⟩
theorem p_all {bs : List Bool} (q : R (.bl (bs.all id))) : Enp (bAll [.lst (bs.map M.bl)] h) R := by
  refine ⟨_, ?_, q⟩
  show (bls (bs.map M.bl)).map _ = _
  have : ∀ bs : List Bool, bls (bs.map M.bl) = some bs := by
    intro bs
    induction bs with
    | nil => rfl
    | cons b bs ih => show (bls (bs.map M.bl)).map (b :: ·) = _; rw [ih]; rfl
  rw [this]; rfl
end
noncomputable def tupOf : M → Option (List M)
  | .tup xs => some xs
  | _ => none
theorem p_isTup {R : M → Prop} {h : HpM} {k : Nat} {x : M} (hx : Pu k x) (q : R (.bl (tupOf x).isSome)) : Enp (bInst [x, .ty "tuple"] h) R := by
  cases x with
  | non => exact pi_non_tuple q
  | bl _ => exact pi_bl_tuple q
  | int _ => exact pi_int_tuple q
  | str _ => exact pi_str_tuple q
  | tup _ => exact pi_tup_tuple q
  | lst _ => exact pi_lst_tuple q
  | dct _ _ => cases k <;> cases hx
  | ref _ => cases k <;> cases hx
  | scr _ => cases k <;> cases hx
  | ty _ => cases k <;> cases hx
noncomputable def isTxt : M → Bool
  | .str _ => true
  | _ => false
theorem p_isStr {R : M → Prop} {h : HpM} {k : Nat} {x : M} (hx : Pu k x) (q : R (.bl (isTxt x))) : Enp (bInst [x, .ty "str"] h) R := by
  cases x with
  | non => exact pi_non_str q
  | bl _ => exact pi_bl_str q
  | int _ => exact pi_int_str q
  | str _ => exact pi_str_str q
  | tup _ => exact pi_tup_str q
  | lst _ => exact pi_lst_str q
  | dct _ _ => cases k <;> cases hx
  | ref _ => cases k <;> cases hx
  | scr _ => cases k <;> cases hx
  | ty _ => cases k <;> cases hx
end L2
set_option Elab.async false
set_option linter.all false
set_option maxRecDepth 100000
namespace ES
open PySem PyProof.Rows
open AutoSeq1 (wpAny_loadPart')
section
variable {prog : Program} {w : World} {A : Around} {E : Value → Shared → Prop} {s : Shared}
theorem nextOf_tuple_item {it l : Addr} {i : Nat} {items} {x : Value} {Q : Value → Shared → Prop} (hit : s.heap.IsTupleIter it l i)
    (hl : s.heap.IsTuple l items) (hx : items[i]? = some x)
    (hQ : ∀ h', h'.IsTupleIter it l (i + 1) → Heap.SameBut it s.heap h' → Q x { s with heap := h' }) :
    wpAny (model prog w) A (Builtin.SmallTypes.nextOf (.ref it)) Q E s := by
  obtain ⟨o, ho, hc, hd⟩ := id hit
  obtain ⟨ol, hol, _, nl, hdl⟩ := hl
  unfold Builtin.SmallTypes.nextOf
  refine wpAny_bind (wpAny_callSpecial?_slot (name := Str.ofString "__next__") hit.typeIs F.slot_tuple_iterator_next
    (wpAny_call_entry F.slot_tuple_iterator_next hit.typeIs F.entry_tuple_iterator_next ?_ (F.args_tuple_iterator_next_1 _)))
  show wpAny _ _ (field (.ref it) 0 >>= _) _ _ s
  refine wpAny_bind (wpAny_field ho hd (x := .ref l) rfl ?_)
  show wpAny _ _ (if (Value.ref l == Value.none) = true then _ else _) _ _ s
  rw [if_neg (show ¬ ((Value.ref l == Value.none) = true) from Bool.false_ne_true)]
  show wpAny _ _ (field (.ref it) 1 >>= _) _ _ s
  refine wpAny_bind (wpAny_field ho hd (x := .int i 0) rfl ?_)
  show wpAny _ _ (seqItems? (.ref l) >>= _) _ _ s
  refine wpAny_bind (wpAny_seqItems hol hdl ?_)
  simp only [Int.toNat_natCast, hx]
  refine wpAny_bind (wpAny_setField ho hd (by simp) (wpAny_pure ⟨x, rfl, wpAny_pure (hQ _ ?_ (Heap.SameBut.update ..))⟩))
  exact ⟨_, Heap.get?_update_self _ ho (Obj.isFreed_of_fields (Obj.data_mapFields hd _)), (Obj.cls_mapFields ..).trans hc, by
    rw [Obj.data_mapFields hd]; simp [rawInt]⟩
theorem nextOf_tuple_end {it l : Addr} {i : Nat} {items} {Q : Value → Shared → Prop} (hh : A.handled = none)
    (hit : s.heap.IsTupleIter it l i) (hl : s.heap.IsTuple l items) (hx : items[i]? = none)
    (hE : ∀ h' e, Heap.ExtBut it s.heap h' → (∃ o, h'.get? e = some o ∧ o.cls = .type "StopIteration") → E (.ref e) { s with heap := h' }) :
    wpAny (model prog w) A (Builtin.SmallTypes.nextOf (.ref it)) Q E s := by
  obtain ⟨o, ho, hc, hd⟩ := id hit
  obtain ⟨ol, hol, _, nl, hdl⟩ := hl
  unfold Builtin.SmallTypes.nextOf
  refine wpAny_bind (wpAny_callSpecial?_slot (name := Str.ofString "__next__") hit.typeIs F.slot_tuple_iterator_next
    (wpAny_call_entry F.slot_tuple_iterator_next hit.typeIs F.entry_tuple_iterator_next ?_ (F.args_tuple_iterator_next_1 _)))
  show wpAny _ _ (field (.ref it) 0 >>= _) _ _ s
  refine wpAny_bind (wpAny_field ho hd (x := .ref l) rfl ?_)
  show wpAny _ _ (if (Value.ref l == Value.none) = true then _ else _) _ _ s
  rw [if_neg (show ¬ ((Value.ref l == Value.none) = true) from Bool.false_ne_true)]
  show wpAny _ _ (field (.ref it) 1 >>= _) _ _ s
  refine wpAny_bind (wpAny_field ho hd (x := .int i 0) rfl ?_)
  show wpAny _ _ (seqItems? (.ref l) >>= _) _ _ s
  refine wpAny_bind (wpAny_seqItems hol hdl ?_)
  simp only [Int.toNat_natCast, hx]
  refine wpAny_bind (wpAny_rule (wpAny_bind (wpAny_setField ho hd (by simp) ?_)))
  show wpAny _ _ (newExc (.type "StopIteration") [] >>= _) _ _ _
  refine wpAny_bind ?_
  simp only [newExc, newTuple]
  refine wpAny_bind (wpAny_newObj_type ?_ (by size_fits))
  refine wpAny_bind (m := firstArgMember _ _) (wpAny_of_eq (a := Value.none) (by first | rfl | (simp only [firstArgMember]; rfl)) ?_)
  refine wpAny_newObj_type ?_ (by size_fits)
  simp only [raiseNew]
  refine wpAny_bind (wpAny_handled ?_)
  first | rw [show A.in1.handled = none from hh] | rw [hh]
  refine wpAny_bind (wpAny_pure (wpAny_throw ?_))
  exact hE _ _ (((Heap.SameBut.update ..).extBut.push _).push _) ⟨_, Heap.get?_push_size _ rfl, rfl⟩
end
theorem drawsT {prog : Program} {w : World} {A : Around} (hh : A.handled = none) (it l : Addr) (hne : l ≠ it) (items : Array Value) :
    Draws prog w A it [it, l] items.size (fun i v => items[i]? = some v) (fun i h => h.IsTupleIter it l i ∧ h.IsTuple l items) where
  live := fun _ _ st => let ⟨o, ho, _⟩ := st.1; ⟨o, ho⟩
  frame := fun _ _ _ st hk => by
    obtain ⟨⟨o, e, r⟩, ⟨o', e', r'⟩⟩ := st
    exact ⟨⟨o, hk it (by simp) o e, r⟩, ⟨o', hk l (by simp) o' e', r'⟩⟩
  item := fun i s Q E hi st hQ => by
    refine nextOf_tuple_item st.1 st.2 (x := items[i]) (by simp [hi]) fun h' hit' hs' => ?_
    exact hQ _ h' s.toks (by simp [hi]) ⟨hit', st.2.extBut hs'.extBut hne⟩ hs'
  done := fun s Q E st hE => nextOf_tuple_end hh st.1 st.2 (by simp) hE
theorem meets_newT (l : Addr) (items : Array Value) (n : Nat) (dct : Option Addr) (sl : Array (Option Value)) :
    Meets (Builtin.«enumerate.__new__» ⟨[.type "enumerate", .ref l], []⟩) (fun _ R s => s.heap.get? l = some { cls := .type "tuple", dict := dct, data := .seq items n, slots := sl } ∧
      R (.ok (.ret (.ref (s.heap.push { cls := .type "tuple_iterator", data := .fields #[.ref l, .int 0 0] }).objs.size)))
        { s with heap := (s.heap.push { cls := .type "tuple_iterator", data := .fields #[.ref l, .int 0 0] }).push { cls := .type "enumerate", data := .fields #[.none, .bool false, .ref s.heap.objs.size, rawInt 0, .none, .none] } }) :=
  .of_wp fun prog w A R s h => by
    obtain ⟨hp, g, d, tk, os⟩ := s; obtain ⟨hl, h⟩ := h
    have hsub := sub_enumerate
    have hL : Heap.IsTuple (Shared.heap ⟨hp, g, d, tk, os⟩) l items := ⟨_, hl, rfl, n, rfl⟩
    wp_walk using wpAny_loadPart' hl
    refine wpAny_stack_any fun st => wpAny_pure ?_
    split
    · rename_i c _ _ _ _ _
      cases (c == Value.type "enumerate")
      · wp_walk using wpAny_loadPart' hl, wpAny_pyIter_tuple hL
        exact ⟨_, rfl, h⟩
      · wp_walk using wpAny_loadPart' hl, wpAny_pyIter_tuple hL
        exact ⟨_, rfl, h⟩
    · wp_walk using wpAny_loadPart' hl, wpAny_pyIter_tuple hL
      exact ⟨_, rfl, h⟩
section
variable {prog : Program} {w : World} {A : Around} {E : Value → Shared → Prop} {s : Shared}
theorem call_enumerate_tuple {l : Addr} {items : Array Value} {Q : Value → Shared → Prop} (hL : s.heap.IsTuple l items)
    (h : ∀ h', IsEnum h' (s.heap.objs.size + 1) s.heap.objs.size 0 .none → h'.IsTupleIter s.heap.objs.size l 0 → h'.objs.size = s.heap.objs.size + 2 →
      (∀ b o, s.heap.get? b = some o → h'.get? b = some o) → Q (.ref (s.heap.objs.size + 1)) { s with heap := h' }) :
    wpAny (model prog w) A (call (.type "enumerate") [.ref l]) Q E s := by
  obtain ⟨⟨c, dct, dt, sl⟩, hl, hc, n, hd⟩ := hL
  replace hc : c = .type "tuple" := hc
  replace hd : dt = .seq items n := hd
  subst hc hd
  refine callType_new F.called_enumerate (by decide) (F.typeCall_enumerate_1 _) (F.newCall_enumerate_1 _) (fun obj => F.args_object_init_2 obj _) F.entry_enumerate_new
    (meets_newT l items n dct sl) ⟨hl, ?_⟩
  have hz : (s.heap.push { cls := .type "tuple_iterator", data := .fields #[.ref l, .int 0 0] }).objs.size = s.heap.objs.size + 1 := Heap.size_push ..
  show _ ∧ _
  rw [hz]
  have he : IsEnum ((s.heap.push { cls := .type "tuple_iterator", data := .fields #[.ref l, .int 0 0] }).push
      { cls := .type "enumerate", data := .fields #[.none, .bool false, .ref s.heap.objs.size, rawInt 0, .none, .none] }) (s.heap.objs.size + 1) s.heap.objs.size 0 .none := by
    have := Heap.get?_push_size (s.heap.push { cls := .type "tuple_iterator", data := .fields #[.ref l, .int 0 0] })
      (o := { cls := .type "enumerate", data := .fields #[.none, .bool false, .ref s.heap.objs.size, rawInt 0, .none, .none] }) rfl
    rw [hz] at this; exact this
  refine ⟨⟨_, he, rfl⟩, h _ he ⟨_, Heap.get?_push_of_some _ (Heap.get?_push_size _ rfl), rfl, rfl⟩ (by rw [Heap.size_push, hz]) fun b o x => Heap.get?_push_of_some _ (Heap.get?_push_of_some _ x)⟩
end
end ES
namespace L2
open PySem PySem.Spec PyProof.Rows
inductive ESrc where
  | lst (a : Addr) | tup (a : Addr)
noncomputable def ESrc.val : ESrc → V
  | .lst a => .ref a
  | .tup a => .ref a
noncomputable def eSq (K : PySem.W.Frag) (H : Hp) : ESrc → List V → Prop
  | .lst a, xs => SqL K H a xs
  | .tup a, xs => SqT K H a xs
noncomputable def eSt (it : Addr) : ESrc → Nat → Heap → Prop
  | .lst a, i, h => h.IsListIter it a i
  | .tup a, i, h => h.IsTupleIter it a i
theorem eSt.obj {it : Addr} {z : ESrc} {i : Nat} {h : Heap} (q : eSt it z i h) : ∃ o c vs, h.get? it = some o ∧ o.cls = .type c ∧ (c = "list_iterator" ∨ c = "tuple_iterator") ∧ o.data = .fields vs := by
  cases z with
  | lst a => obtain ⟨o, e, c, d⟩ := q; exact ⟨o, _, _, e, c, .inl rfl, d⟩
  | tup a => obtain ⟨o, e, c, d⟩ := q; exact ⟨o, _, _, e, c, .inr rfl, d⟩
theorem eSt.keep {it : Addr} {z : ESrc} {i : Nat} {h h' : Heap} (q : eSt it z i h) (k : ∀ o, h.get? it = some o → h'.get? it = some o) : eSt it z i h' := by
  cases z with
  | lst a => obtain ⟨o, e, r⟩ := q; exact ⟨o, k o e, r⟩
  | tup a => obtain ⟨o, e, r⟩ := q; exact ⟨o, k o e, r⟩
theorem eDraws {X : Cx} {pins : List (Addr × Obj)} {σ : St} {H : Hp} {s : Shared} {A : Around} (I : Inv X pins σ H s) (hh : A.handled = none) {it : Addr} {z : ESrc} {i : Nat} {xs : List V} (hq : eSq X.K H z xs) (q : eSt it z i s.heap) :
    ∃ (f : List Addr) (P : Nat → Value → Prop) (St : Nat → Heap → Prop), Draws X.prog X.w A it f xs.length P St ∧ St i s.heap ∧ (∀ j v, P j v → ∃ x, RelV x v ∧ xs[j]? = some x) ∧ (∀ j h, St j h → eSt it z j h) ∧
      (∀ b ∈ f, b = it ∨ ∃ o, s.heap.get? b = some o ∧ (o.cls = .type "list" ∨ o.cls = .type "tuple")) ∧ ∀ ys, eSq X.K H z ys → ys = xs := by
  cases z with
  | lst a =>
    obtain ⟨its, r, pl, hz⟩ := I.list hq
    obtain ⟨ol, el, cl, _⟩ := id pl.isList
    obtain ⟨oi, ei, ci, _⟩ := id q
    have hne : a ≠ it := by
      intro z; subst z
      rw [el] at ei; cases ei
      rw [cl] at ci; exact absurd ci (by decide)
    have e : xs.length = its.toArray.size := by rw [List.size_toArray]; exact r.length
    refine ⟨[it, a], fun i v => its.toArray[i]? = some v, fun i h => h.IsListIter it a i ∧ h.IsList a its.toArray, by rw [e]; exact Draws.list hh it a hne its.toArray, ⟨q, pl.isList⟩, fun j v hv => ?_, fun j h x => x.1, fun b hb => ?_, fun ys hy => I.list_inj hy hq⟩
    · have hv' : its[j]? = some v := by simpa using hv
      have hj : j < xs.length := by rw [r.length]; exact (List.getElem?_eq_some_iff.mp hv').1
      obtain ⟨u, eu, ru⟩ := r.get (i := j) (x := xs[j]) (by simp [hj])
      rw [hv'] at eu; cases eu
      exact ⟨xs[j], ru, by simp [hj]⟩
    · rcases List.mem_cons.mp hb with z | z
      · exact .inl z
      · cases (List.mem_singleton.mp z)
        exact .inr ⟨ol, el, .inl cl⟩
  | tup a =>
    obtain ⟨its, r, pl, hz⟩ := I.tuple hq
    have pl' : s.heap.IsTuple a its.toArray := pl
    obtain ⟨ol, el, cl, _⟩ := id pl'
    obtain ⟨oi, ei, ci, _⟩ := id q
    have hne : a ≠ it := by
      intro z; subst z
      rw [el] at ei; cases ei
      rw [cl] at ci; exact absurd ci (by decide)
    have e : xs.length = its.toArray.size := by rw [List.size_toArray]; exact r.length
    refine ⟨[it, a], fun i v => its.toArray[i]? = some v, fun i h => h.IsTupleIter it a i ∧ h.IsTuple a its.toArray, by rw [e]; exact ES.drawsT hh it a hne its.toArray, ⟨q, pl'⟩, fun j v hv => ?_, fun j h x => x.1, fun b hb => ?_, fun ys hy => I.tuple_inj hy hq⟩
    · have hv' : its[j]? = some v := by simpa using hv
      have hj : j < xs.length := by rw [r.length]; exact (List.getElem?_eq_some_iff.mp hv').1
      obtain ⟨u, eu, ru⟩ := r.get (i := j) (x := xs[j]) (by simp [hj])
      rw [hv'] at eu; cases eu
      exact ⟨xs[j], ru, by simp [hj]⟩
    · rcases List.mem_cons.mp hb with z | z
      · exact .inl z
      · cases (List.mem_singleton.mp z)
        exact .inr ⟨ol, el, .inr cl⟩
noncomputable def Ite (K : PySem.W.Frag) (a : ESrc) : It :=
  ⟨fun i H => ∃ xs, eSq K H a xs ∧ i < xs.length, fun i H v H' => ∃ x p, (∀ xs, eSq K H a xs → xs[i]? = some x) ∧ H p = none ∧ v = .ref p ∧ H' = upd H p (.tup [.int i, x]),
    fun i H => ∃ xs, eSq K H a xs ∧ i = xs.length⟩
theorem turn_enum {P : Program} {w : World} {K : PySem.W.Frag} {elts : List Expr} {k0 : Nat} {pos : Pos} {e it : Addr} {a : ESrc} (hei : e ≠ it) :
    Turn P w K (.Tuple elts k0 pos) (Ite K a) [e, it] e (fun i h => (∃ old, IsEnum h e it i old) ∧ eSt it a i h) where
  mem := by simp
  obj := fun i h st c hc => by
    obtain ⟨⟨old, s1⟩, s2⟩ := st
    simp only [List.mem_cons, List.not_mem_nil, or_false] at hc
    rcases hc with rfl | rfl
    · exact ⟨_, s1, fun v e => nomatch e⟩
    · obtain ⟨o, c, vs, e, _, _, d⟩ := s2.obj; exact ⟨o, e, fun v q => by rw [d] at q; cases q⟩
  keep := fun i h h' st k => by
    obtain ⟨⟨old, s1⟩, s2⟩ := st
    exact ⟨⟨old, k e (by simp) _ s1⟩, s2.keep fun o x => k it (by simp) o x⟩
  item := by
    intro X hP hw hK hc i pins s σ H E I hf st hg
    subst hP hw hK
    obtain ⟨⟨old, s1⟩, s2⟩ := st
    obtain ⟨xs, hq, hi⟩ := hg
    have hh : X.A.in1.handled = none := I.ok.hd hc
    obtain ⟨f, P, St, D, st, pp, b1, q1, inj⟩ := eDraws I hh hq s2
    have hef : e ∉ f := fun z => by
      rcases q1 e z with h | ⟨o, h, c⟩
      · exact hei h
      · rw [s1] at h; cases h
        rcases c with c | c <;> (injection c with c; exact absurd c (by decide))
    refine wpAny_pyNext_enum_itemD D s1 st hi hei hef fun u h' tk pu ho st' hT hsz hk => ⟨_, rfl, ?_⟩
    refine PySem.wpAny_letOwnedTupleGo_enum ho fun h'' he'' hs'' => ?_
    obtain ⟨x, rx, ax⟩ := pp i u pu
    have hpe : s.heap.objs.size ≠ e := Nat.ne_of_gt (Heap.lt_size s1)
    have keepAll : ∀ c o, c ∉ [e, it] → s.heap.get? c = some o → h''.get? c = some o := fun c o hc x => by
      simp only [List.mem_cons, List.not_mem_nil, or_false, not_or] at hc
      exact hs''.extBut _ _ hc.1 (hk c o hc.1 hc.2 x)
    have hT'' := hs''.extBut _ _ hpe hT
    refine ⟨.ref s.heap.objs.size, upd H s.heap.objs.size (.tup [.int i, x]), I.turnedT (its := [.int i tk, u]) keepAll hf (Nat.le_refl _) (.cons ⟨tk, rfl⟩ (.cons rx .nil)) (by show 2 ≤ sizeLine; rw [sizeLine_eq]; decide) ⟨_, hT'', rfl, _, rfl⟩, rfl, ⟨x, _, fun ys hy => by rw [inj ys hy]; exact ax, I.hok.fresh (Nat.le_refl _), rfl, rfl⟩, ?_, fun c hc => ?_⟩
    · exact ⟨⟨_, he''⟩, (b1 _ _ st').keep fun o z => hs''.extBut _ _ hei.symm z⟩
    · have : c ≠ s.heap.objs.size := by
        have hlt : c < s.heap.objs.size := by
          simp only [List.mem_cons, List.not_mem_nil, or_false] at hc
          rcases hc with rfl | rfl
          · exact Heap.lt_size s1
          · obtain ⟨o, c, vs, e, _⟩ := s2.obj; exact Heap.lt_size e
        exact Nat.ne_of_lt hlt
      rw [upd_ne this]; exact (hf c hc).1
  done := by
    intro X hP hw hK hc i pins s σ H E I hf st hg
    subst hP hw hK
    obtain ⟨⟨old, s1⟩, s2⟩ := st
    obtain ⟨xs, hq, rfl⟩ := hg
    have hh : X.A.in1.handled = none := I.ok.hd hc
    obtain ⟨f, P, St, D, st, pp, b1, q1, inj⟩ := eDraws I hh hq s2
    refine wpAny_pyNext_enum_endD D s1 st fun h' hx => ⟨rfl, I.turnedL (t' := s.toks) (fun c o hc z => ?_) hf⟩
    simp only [List.mem_cons, List.not_mem_nil, or_false, not_or] at hc
    exact hx c o hc.2 z
  self := fun A i s Q E st h => by
    obtain ⟨⟨old, he⟩, _⟩ := st
    exact wpAny_pyIter_enum he h
def iEn (K : PySem.W.Frag) (ta : TA) : TI := fun σ H R => ta σ H fun vs H1 => ∃ a : ESrc, vs = [a.val] ∧ (∃ xs, eSq K H1 a xs) ∧ R (Ite K a) H1
theorem pi_enum {X : Cx} {x : Expr} {ta : TA} {p pos : Pos} {elts : List Expr} {k0 : Nat} {tp : Pos} (hg : Gl X "enumerate") (hm : X.mg "enumerate" = none) (ha : PA X [x] ta) (hs : starEach [x] X.env = [(false, eval x X.env)]) :
    PI X (.Tuple elts k0 tp) (.Call (.Name "enumerate" p) [x] [] pos) (iEn X.K ta) := by
  intro pins s σ H R I h
  refine Call_ (ld_blt I hg hm (show bootBuiltins "enumerate" = some (.type "enumerate") by decide +kernel) (PyProof.Rows.callWith_type1 (thn (ha pos pins s σ H _ I h) fun us s1 ⟨vs, H1, I1, r1, q1⟩ => ?_) hs rfl))
  obtain ⟨a, rfl, ⟨xs, hq⟩, q⟩ := q1
  have fin : ∀ h', IsEnum h' (s1.heap.objs.size + 1) s1.heap.objs.size 0 .none → eSt s1.heap.objs.size a 0 h' → h'.objs.size = s1.heap.objs.size + 2 →
      (∀ b o, s1.heap.get? b = some o → h'.get? b = some o) → wpAny (model X.prog X.w) X.A (pyIter (.ref (s1.heap.objs.size + 1))) (PIE X pins σ (.Tuple elts k0 tp) R) X.xe { s1 with heap := h' } := fun h' he hi hsz hk => by
    have I2 : Inv X pins σ H1 { s1 with heap := h' } := I1.kept (t' := s1.toks) hk
    have st : (∃ old, IsEnum h' (s1.heap.objs.size + 1) s1.heap.objs.size ((0 : Nat) : Int) old) ∧ eSt s1.heap.objs.size a 0 h' := ⟨⟨_, he⟩, hi⟩
    have hne : s1.heap.objs.size + 1 ≠ s1.heap.objs.size := Nat.succ_ne_self _
    refine (turn_enum (P := X.prog) (w := X.w) (K := X.K) (elts := elts) (k0 := k0) (pos := tp) hne).self _ 0 _ _ _ st ⟨_, _, _, Ite X.K a, H1, rfl, I2, turn_enum hne, st, fun c hc => ?_, q⟩
    have hge : s1.heap.objs.size ≤ c := by
      simp only [List.mem_cons, List.not_mem_nil, or_false] at hc
      rcases hc with rfl | rfl
      · exact Nat.le_add_right _ _
      · exact Nat.le_refl _
    exact I1.fpOk hge (I1.hok.fresh hge)
  cases r1 with
  | cons r rr =>
    cases rr
    cases a with
    | lst a =>
      cases (show _ = Value.ref a from r)
      obtain ⟨its, _, pl, _⟩ := I1.list hq
      exact call_enumerate_list pl.isList fin
    | tup a =>
      cases (show _ = Value.ref a from r)
      obtain ⟨its, _, pl, _⟩ := I1.tuple hq
      exact ES.call_enumerate_tuple pl fin
end L2
set_option Elab.async false
set_option linter.all false
set_option maxRecDepth 100000
namespace L2
open PySem PySem.Spec PyProof.Rows
section
variable {X : Cx} {K : PySem.W.Frag} {mas : FA} {p pos : Pos}
noncomputable def eOfM : M → Option (List M)
  | .lst xs => some xs
  | .tup xs => some xs
  | .scr ns => some (ns.map M.int)
  | _ => none
noncomputable def numd (xs : List M) : List M := (List.range xs.length).zipWith (fun (i : Nat) x => M.tup [.int (i : Int), x]) xs
theorem numd_length (xs : List M) : (numd xs).length = xs.length := by simp [numd]
theorem numd_get {xs : List M} {i : Nat} : (numd xs)[i]? = (xs[i]?).map fun x => M.tup [.int (i : Int), x] := by
  unfold numd
  rw [List.getElem?_zipWith]
  by_cases h : i < xs.length
  · rw [List.getElem?_range h, List.getElem?_eq_getElem h]; rfl
  · have h1 : (List.range xs.length)[i]? = none := List.getElem?_eq_none (by simp; omega)
    have h2 : xs[i]? = none := List.getElem?_eq_none (by omega)
    rw [h1, h2]; rfl
noncomputable def iEnumerate (a : FA) : FI := fun ρ h => bnd (a ρ h) fun xs h1 => match xs with
  | [x] => (eOfM x).bind fun us => some ((numd us, none), h1)
  | _ => none
noncomputable def eKind : M → Bool
  | .tup _ => true
  | _ => false
theorem eOfM_srcK {α : Pl} {H : Hp} {m : M} {a : Addr} {us : List M} (e : eOfM m = some us) (r : RepA K α H m (.ref a)) : ∃ vs : List V, eSq K H (if eKind m then .tup a else .lst a) vs ∧ RepAs K α H us vs := by
  unfold eOfM at e
  split at e
  · cases e
    obtain ⟨a', vs, q, n, ha, rs⟩ := r
    cases q
    exact ⟨vs, SqL.of ha, rs⟩
  · cases e
    obtain ⟨a', vs, q, t, rs⟩ := r
    cases q
    exact ⟨vs, t.sq, rs⟩
  · cases e
    obtain ⟨a', q, t⟩ := r
    cases q
    exact ⟨_, t.sq, RepAs.ints⟩
  · cases e
theorem eOfM_ref {α : Pl} {H : Hp} {m : M} {v : V} {us : List M} (e : eOfM m = some us) (r : RepA K α H m v) : ∃ a, v = .ref a := by
  unfold eOfM at e
  split at e
  · obtain ⟨a, vs, rfl, _⟩ := r; exact ⟨a, rfl⟩
  · obtain ⟨a, vs, rfl, _⟩ := r; exact ⟨a, rfl⟩
  · obtain ⟨a, rfl, _⟩ := r; exact ⟨a, rfl⟩
  · cases e
theorem mi_enumerate {x : Expr} {elts : List Expr} {k0 : Nat} {tp : Pos} (q : NmOk X.env.scope "enumerate" .globalImplicit) (hm : X.mg "enumerate" = none) (ha : PA X [x] (aM X.K mas)) (hs : starEach [x] X.env = [(false, eval x X.env)]) (hs2 : True := trivial) :
    PI X (.Tuple elts k0 tp) (.Call (.Name "enumerate" p) [x] [] pos) (iM X.K (iEnumerate mas)) := (pi_enum q.lk hm ha hs).imp <| by
  rintro σ H R ⟨α, ρ, h, s, h', hσ, hr, e, k⟩
  obtain ⟨xs, h1, e1, e⟩ := bnd_inv e
  split at e
  · rename_i m
    obtain ⟨us, e2, e⟩ := Option.bind_eq_some_iff.mp e
    cases e
    refine ⟨α, ρ, h, _, _, hσ, hr, e1, fun α1 H1 ws ev1 hr1 rs => ?_⟩
    obtain ⟨u, rfl, ru⟩ := rep1 rs
    obtain ⟨a, rfl⟩ := eOfM_ref e2 ru
    obtain ⟨vs, sq, rvs⟩ := eOfM_srcK e2 ru
    refine ⟨if eKind m then .tup a else .lst a, by split <;> rfl, ⟨vs, sq⟩, k α1 H1 _ ev1 hr1 fun γ hγ α2 h2 H2 ev2 hr2 _ i => ?_⟩
    have ru2 := (ru.hides hγ).ev ev2
    refine ⟨fun z hz => ?_, fun hl => ?_⟩
    · obtain ⟨vs2, sq2, rvs2⟩ := eOfM_srcK e2 ru2
      rw [numd_get] at hz
      cases qu : us[i]? with
      | none => rw [qu] at hz; cases hz
      | some w =>
        rw [qu] at hz
        cases hz
        have hi : i < vs2.length := by rw [← rvs2.length]; exact (List.getElem?_eq_some_iff.mp qu).1
        refine ⟨⟨vs2, sq2, hi⟩, fun v H3 y => ?_⟩
        obtain ⟨y, p, hy, hp, rfl, rfl⟩ := y
        refine ⟨same_new hp _, laidT hr2 hp ⟨_, _, rfl, rfl, y, _, rfl, ?_, rfl⟩⟩
        obtain ⟨v', hv', rv'⟩ := rvs2.get qu
        have := hy vs2 sq2
        rw [hv'] at this
        cases this
        exact rv'
    · obtain ⟨vs2, sq2, rvs2⟩ := eOfM_srcK e2 ru2
      exact ⟨vs2, sq2, by rw [hl, numd_length, rvs2.length]⟩
  · cases e
noncomputable def pairUp {α : Type} : List α → List (α × α)
  | k :: v :: r => (k, v) :: pairUp r
  | _ => []
noncomputable def keyed : List M → Option (List (Key × M))
  | [] => some []
  | [_] => none
  | k :: v :: r => (keyM k).bind fun k' => (keyed r).map ((k', v) :: ·)
noncomputable def putM (kvs : List (Key × M)) (k : Key) (v : M) : List (Key × M) := if (kvs.any fun kv => decide (kv.1 = k)) then kvs.map fun kv => if kv.1 = k then (kv.1, v) else kv else kvs ++ [(k, v)]
noncomputable def mergeM (kvs more : List (Key × M)) : List (Key × M) := more.foldl (fun acc kv => putM acc kv.1 kv.2) kvs
def RepD (K : PySem.W.Frag) (α : Pl) (H : Hp) (kvs : List (Key × M)) (ws : List (Key × V)) : Prop := ws.map (·.1) = kvs.map (·.1) ∧ RepAs K α H (kvs.map (·.2)) (ws.map (·.2))
theorem RepD.inv {α : Pl} {H : Hp} {kv : Key × M} {kvs : List (Key × M)} {ws : List (Key × V)} (r : RepD K α H (kv :: kvs) ws) : ∃ w ws', ws = w :: ws' ∧ w.1 = kv.1 ∧ RepA K α H kv.2 w.2 ∧ RepD K α H kvs ws' := by
  obtain ⟨e, r⟩ := r
  cases ws with
  | nil => cases e
  | cons w ws =>
    obtain ⟨v, q, e1, h1, h2⟩ := r
    have e1' : w.2 :: ws.map (·.2) = v :: q := e1
    injection e1' with ev eq
    subst ev eq
    have e' : w.1 :: ws.map (·.1) = kv.1 :: kvs.map (·.1) := e
    injection e' with ek es
    exact ⟨w, ws, rfl, ek, h1, es, h2⟩
theorem RepD.nil {α : Pl} {H : Hp} : RepD K α H [] [] := ⟨rfl, rfl⟩
theorem RepD.nil_inv {α : Pl} {H : Hp} {ws : List (Key × V)} (r : RepD K α H [] ws) : ws = [] := by
  have := r.1
  cases ws with
  | nil => rfl
  | cons _ _ => cases this
theorem RepD.cons {α : Pl} {H : Hp} {kv : Key × M} {kvs : List (Key × M)} {w : Key × V} {ws : List (Key × V)} (e : w.1 = kv.1) (h : RepA K α H kv.2 w.2) (r : RepD K α H kvs ws) : RepD K α H (kv :: kvs) (w :: ws) :=
  ⟨by rw [List.map_cons, List.map_cons, e, r.1], ⟨_, _, rfl, h, r.2⟩⟩
theorem RepD.put {α : Pl} {H : Hp} {k : Key} {m : M} {v : V} (hm : RepA K α H m v) {kvs : List (Key × M)} {ws : List (Key × V)} (r : RepD K α H kvs ws) : RepD K α H (putM kvs k m) (putK ws k v) := by
  have ha : ∀ {kvs : List (Key × M)} {ws : List (Key × V)}, RepD K α H kvs ws → (kvs.any fun kv => decide (kv.1 = k)) = ws.any fun kv => decide (kv.1 = k) := by
    intro kvs
    induction kvs with
    | nil => intro ws r; cases r.nil_inv; rfl
    | cons kv kvs ih =>
      intro ws r
      obtain ⟨w, ws', rfl, e, _, r'⟩ := r.inv
      rw [List.any_cons, List.any_cons, ih r', e]
  unfold putM putK
  rw [ha r]
  split
  · rename_i hc
    clear hc
    induction kvs generalizing ws with
    | nil => cases r.nil_inv; exact .nil
    | cons kv kvs ih =>
      obtain ⟨w, ws', rfl, e, h1, r'⟩ := r.inv
      rw [List.map_cons, List.map_cons]
      refine RepD.cons ?_ ?_ (ih r')
      · by_cases hk : kv.1 = k
        · rw [if_pos hk, if_pos (e.trans hk)]; exact e
        · rw [if_neg hk, if_neg (fun z => hk (e.symm.trans z))]; exact e
      · by_cases hk : kv.1 = k
        · rw [if_pos hk, if_pos (e.trans hk)]; exact hm
        · rw [if_neg hk, if_neg (fun z => hk (e.symm.trans z))]; exact h1
  · refine ⟨?_, ?_⟩
    · rw [List.map_append, List.map_append, r.1]; rfl
    · rw [List.map_append, List.map_append]; exact r.2.snoc hm
theorem RepD.merge {α : Pl} {H : Hp} : ∀ {more : List (Key × M)} {mw : List (Key × V)} {kvs : List (Key × M)} {ws : List (Key × V)}, RepD K α H more mw → RepD K α H kvs ws → RepD K α H (mergeM kvs more) (mergeK ws mw)
  | [], mw, kvs, ws, h, r => by cases h.nil_inv; exact r
  | kv :: more, mw, kvs, ws, h, r => by
    obtain ⟨w, mw', rfl, e, h1, h'⟩ := h.inv
    show RepD K α H (mergeM (putM kvs kv.1 kv.2) more) (mergeK (putK ws w.1 w.2) mw')
    rw [e]
    exact RepD.merge h' (r.put h1)
noncomputable def mDsp (a : FA) : FE := fun ρ h => bnd (a ρ h) fun xs h1 => (keyed xs).bind fun kvs => if kvs.length ≤ 15 then some (.dct ((mergeM [] kvs).map (·.1)) ((mergeM [] kvs).map (·.2)), h1) else none
abbrev TPr := St → Hp → (List (V × V) → Hp → Prop) → Prop
def PPm (X : Cx) (pos : Pos) (keys : List (Option Expr)) (values : List Expr) (t : TPr) : Prop :=
  ∀ (pins : List (Addr × Obj)) (s : Shared) (σ : St) (H : Hp) (Q : List (V × V) → Hp → Prop), Inv X pins σ H s → t σ H Q →
    wpAny (model X.prog X.w) X.A (evalPairs (pairTrees keys values X.env pos)) (fun vs s' => ∃ ps H', Inv X pins σ H' s' ∧ VV ps vs ∧ Q ps H') X.xe s
def pM (K : PySem.W.Frag) (m : FA) : TPr := fun σ H Q => ∃ α ρ h d h', REnv K α H ρ σ ∧ Rl K α h H ∧ m ρ h = some (d, h') ∧ ∀ α' H' vs, Ev α α' H H' → Rl K α' h' H' → RepAs K α' H' d vs → Q (pairUp vs) H'
theorem mp_nil : PPm X pos [] [] (pM X.K mNil) := by
  rintro pins s σ H Q I ⟨α, ρ, h, d, h', hσ, hr, e, k⟩
  cases e
  exact pairTrees_nil_walk ⟨[], H, I, .nil, k α H [] .refl hr rfl⟩
theorem mp_cons {k v : Expr} {ks : List (Option Expr)} {vs : List Expr} {mk mv : FE} (hk : PE X k (tM X.K mk)) (hv : PE X v (tM X.K mv)) (hr : PPm X pos ks vs (pM X.K mas)) :
    PPm X pos (some k :: ks) (v :: vs) (pM X.K (mCons mk (mCons mv mas))) := by
  rintro pins s σ H Q I ⟨α, ρ, h, d, h', hσ, hR, e, kk⟩
  obtain ⟨x, h1, e1, e⟩ := bnd_inv e
  obtain ⟨xs, h2, e2, e⟩ := bnd_inv e
  cases e
  obtain ⟨y, h3, e3, e2⟩ := bnd_inv e2
  obtain ⟨ys, h4, e4, e2⟩ := bnd_inv e2
  cases e2
  refine pairTrees_cons_walk (thn (hk pins s σ H (fun u H1 => tM X.K mv σ H1 fun u2 H2 => pM X.K mas σ H2 fun ps H3 => Q ((u, u2) :: ps) H3) I ⟨α, ρ, h, x, h1, hσ, hR, e1, fun α1 H1 u ev1 hr1 ru => ⟨α1, ρ, h1, y, h3, hσ.ev ev1, hr1, e3, fun α2 H2 u2 ev2 hr2 ru2 => ⟨α2, ρ, h3, ys, _, (hσ.ev ev1).ev ev2, hr2, e4, fun α3 H3 us ev3 hr3 rus => ?_⟩⟩⟩) fun w1 s1 ⟨u, H1, I1, rx, q1⟩ => thn (hv pins s1 σ H1 _ I1 q1) fun w2 s2 ⟨u2, H2, I2, ry, q2⟩ =>
    thn (hr pins s2 σ H2 _ I2 q2) (by rintro ws s3 ⟨ps, H3, I3, rel, q3⟩; exact ⟨(u, u2) :: ps, H3, I3, .cons ⟨rx, ry⟩ rel, q3⟩))
  exact kk α3 H3 (u :: u2 :: us) ((ev1.trans ev2).trans ev3) hr3 ⟨u, _, rfl, (ru.ev ev2).ev ev3, u2, _, rfl, ru2.ev ev3, rus⟩
def tDispM (t : TPr) : TE := fun σ H Q => ∀ p, H p = none → t σ (upd H p (.dK [])) fun ps H2 => H2 p = some (.dK []) ∧ ∃ kvs : List (Key × V), ps = kvs.map (fun kv => (kV kv.1, kv.2)) ∧ kvs.length ≤ 15 ∧ Q (.ref p) (upd H2 p (.dK (mergeK [] kvs)))
theorem pe_dispM {keys : List (Option Expr)} {values : List Expr} {t : TPr} (h : PPm X pos keys values t) (hall : keys.all (·.isSome) = true) (hl : keys.length = values.length) (h0 : keys ≠ [])
    (h15 : keys.length ≤ 15) : PE X (.Dict keys values pos) (tDispM t) := by
  intro pins s σ H Q I q
  have hn := I.hok.fresh (Nat.le_refl s.heap.objs.size)
  have I1 := I.laid (a := s.heap.objs.size) (o := .dK []) (h' := s.heap.push { cls := .type "dict", data := .dict #[] }) (t' := s.toks) (fun _ _ q => Heap.get?_push_of_some _ q) (Nat.le_refl _) (dk_empty s.heap I.big)
  refine wpAny_Dict_walk (knd := mixKind X.prog X.w) hall hl h0 h15 (thn (h pins _ σ _ _ I1 (q _ hn)) ?_)
  rintro ws s2 ⟨ps, H2, I2, rel, e, kvs, ep, lk, q2⟩
  subst ep
  obtain ⟨rs, c, rk⟩ := carries_of (P := X.prog) (w := X.w) rel
  obtain ⟨z, hd, vs0, r0, dd⟩ := dk_of I2.hok e
  cases r0
  refine ⟨rs, c, dd, fun h' dd' hs => ⟨.ref s.heap.objs.size, _, ?_, rfl, q2⟩⟩
  have hz : (mergeK [] kvs).length ≤ sizeLine := by
    have h1 := length_mergeK kvs []
    rw [List.length_nil] at h1
    rw [sizeLine_eq]; omega
  have he : ∃ q, h'.get? s.heap.objs.size = some q := let ⟨q, _, _, hq, _⟩ := dd'; ⟨q, hq⟩
  exact d_write I2 (by rw [e]; exact True.intro) hs he (dk_new hz hd (rk.merge .nil) dd')
theorem keyed_rep {α : Pl} {H : Hp} : ∀ {xs : List M} {kvs : List (Key × M)} {vs : List V}, keyed xs = some kvs → RepAs K α H xs vs → ∃ ws : List (Key × V), pairUp vs = ws.map (fun kv => (kV kv.1, kv.2)) ∧ ws.length = kvs.length ∧ RepD K α H kvs ws
  | [], kvs, vs, e, r => by
    cases e
    cases (show vs = [] from r)
    exact ⟨[], rfl, rfl, .nil⟩
  | [_], _, _, e, _ => by cases e
  | k :: v :: xs, kvs, vs, e, r => by
    obtain ⟨k', e1, e⟩ := Option.bind_eq_some_iff.mp e
    obtain ⟨kvs', e2, rfl⟩ := Option.map_eq_some_iff.mp e
    obtain ⟨u, q, rfl, ru, u2, q2, rfl, ru2, rq⟩ := r
    obtain ⟨ws, h1, h2, h3⟩ := keyed_rep e2 rq
    refine ⟨(k', u2) :: ws, ?_, by simp [h2], .cons rfl ru2 h3⟩
    show (u, u2) :: pairUp q2 = _
    rw [h1, keyM_rep e1 ru]; rfl
theorem me_dsp {keys : List (Option Expr)} {values : List Expr} (h : PPm X pos keys values (pM X.K mas)) (hall : keys.all (·.isSome) = true) (hl : keys.length = values.length) (h0 : keys ≠ [])
    (h15 : keys.length ≤ 15) : PE X (.Dict keys values pos) (tM X.K (mDsp mas)) := (pe_dispM h hall hl h0 h15).imp <| by
  rintro σ H Q ⟨α, ρ, h, d, h', hσ, hr, e, k⟩
  obtain ⟨xs, h1, e1, e⟩ := bnd_inv e
  obtain ⟨kvs, e2, e⟩ := Option.bind_eq_some_iff.mp e
  split at e
  · rename_i h15
    cases e
    intro p hp
    refine ⟨α.hide p, ρ, h, xs, _, (hσ.hide hp).ev (.same (same_new hp _)), hr.lay hp, e1, fun α2 H2 vs ev2 hr2 rvs => ?_⟩
    have hg : α2.g = p :: α.g := ev2.pre.1
    have ea : α2 = Pl.hide ⟨α2.a, α.g⟩ p := by cases α2; cases hg; rfl
    have hpm : p ∈ α2.g := by rw [hg]; exact List.mem_cons_self
    have hpn : p ∉ α2.a := fun hm => hr2.ap p hm hpm
    have hpa : p ∉ (α.hide p).a := hr.newA hp
    have hp2 : H2 p = some (.dK []) := ev2.keep _ _ upd_same hpa
    obtain ⟨ws, w1, w2, w3⟩ := keyed_rep e2 rvs
    refine ⟨hp2, ws, w1, by omega, ?_⟩
    have hr3 := hr2.hw (u := .dK (mergeK [] ws)) hpm
    have r3 : RepD X.K α2 (upd H2 p (.dK (mergeK [] ws))) (mergeM [] kvs) (mergeK [] ws) := by
      have := RepD.merge w3 (RepD.nil (K := X.K) (α := α2) (H := H2))
      exact ⟨this.1, this.2.hw hpm⟩
    rw [ea] at hr3 r3
    refine k ⟨α2.a, α.g⟩ _ _ ?_ hr3.show ⟨p, _, rfl, ⟨hpn, (hr.new hp).2⟩, upd_same, r3.1, r3.2.show⟩
    have ev3 : Ev (α.hide p) α2 (upd H p (.dK [])) H2 := ev2
    rw [ea] at ev3
    have ev4 : Ev α ⟨α2.a, α.g⟩ (upd H p (.dK [])) H2 := ev3.unhide
    refine ⟨⟨rfl, ?_⟩, fun b o hb n => ?_, fun b hb => ?_⟩
    · obtain ⟨_, β, e1, e2⟩ := ev4.pre
      refine ⟨β, e1, fun b hb => ?_⟩
      have := e2 b hb
      by_cases z : b = p
      · subst z; exact hp
      · rw [upd_ne z] at this; exact this
    · have z : b ≠ p := by intro z; subst z; rw [hp] at hb; cases hb
      rw [upd_ne z]; exact ev4.keep b o (by rw [upd_ne z]; exact hb) n
    · by_cases z : b = p
      · subst z; rw [upd_same] at hb; cases hb
      · rw [upd_ne z] at hb
        have := ev4.dom b hb
        rw [upd_ne z] at this; exact this
  · cases e
end
section
variable {R : M → HpM → Prop} {ρ : EnvM} {h : HpM} {mas : FA}
theorem e_iEnum {s : SI} (q : Ens (mas ρ h) fun xs h1 => ∃ x us, xs = [x] ∧ eOfM x = some us ∧ s (numd us, none) h1) : Ens (iEnumerate mas ρ h) s := .bnd (q.mono fun x h1 q => by
  obtain ⟨x, us, rfl, e1, q⟩ := q
  exact ⟨_, h1, by show (eOfM x).bind _ = _; rw [e1]; rfl, q⟩)
theorem e_dsp (q : Ens (mas ρ h) fun xs h1 => ∃ kvs, keyed xs = some kvs ∧ kvs.length ≤ 15 ∧ R (.dct ((mergeM [] kvs).map (·.1)) ((mergeM [] kvs).map (·.2))) h1) : Ens (mDsp mas ρ h) R := .bnd (q.mono fun xs h1 q => by
  obtain ⟨kvs, e1, e2, q⟩ := q
  exact ⟨_, h1, by rw [e1, Option.bind_some, if_pos e2], q⟩)
end
end L2
set_option Elab.async false
set_option linter.all false
set_option maxRecDepth 100000
namespace L2
open PySem PySem.Spec PyProof.Rows
section
variable {X : Cx} {a b c e : Expr} {ta tb tc te : TE} {ma mb mc md : FE} {pos : Pos}
theorem pt_chain3 {op op' op'' : CmpOp} {r r' r'' : R2} (ho : OpR X (compareOp op) r) (ho' : OpR X (compareOp op') r') (ho'' : OpR X (compareOp op'') r'') (ha : PE X a ta) (hb : PE X b tb) (hc : PE X c tc) (he : PE X e te)
    (hm : lastMarks [op, op', op''] [b, c, e] = false) : PT X (.Compare a [op, op', op''] [b, c, e] pos) (tTest (tChain3 r r' r'' ta tb tc te)) := by
  intro pins s σ H Q I h
  refine isTrue_chain (thn (ha pins s σ H _ I h) fun v s1 ⟨x, H1, I1, r1, q1⟩ => test_link (thn (hb pins s1 σ H1 _ I1 q1) fun u s2 ⟨y, H2, I2, r2, q2⟩ =>
    thn (ho pins s2 σ H2 x y v u _ I2 r1 r2 q2) fun d s3 ⟨z, H3, I3, r3, k, e3, q3⟩ => ?_)) hm
  subst e3
  cases r3
  refine wpAny_truthy_bool ?_
  cases k with
  | false =>
    obtain ⟨k', e', q'⟩ := q3
    cases e'
    exact ite_ff ⟨H3, I3, q'⟩
  | true =>
    refine ite_tt (test_link (thn (hc pins s3 σ H3 _ I3 q3) fun w' s4 ⟨z', H4, I4, r4, q4⟩ => thn (ho' pins s4 σ H4 y z' u w' _ I4 r2 r4 q4) fun d5 s5 ⟨z5, H5, I5, r5, k5, e5, q5⟩ => ?_))
    subst e5
    cases r5
    refine wpAny_truthy_bool ?_
    cases k5 with
    | false =>
      obtain ⟨k', e', q'⟩ := q5
      cases e'
      exact ite_ff ⟨H5, I5, q'⟩
    | true =>
      refine ite_tt (test_last (thn (he pins s5 σ H5 _ I5 q5) fun w6 s6 ⟨z6, H6, I6, r6, q6⟩ => thn (ho'' pins s6 σ H6 z' z6 w' w6 _ I6 r4 r6 q6) fun d7 s7 ⟨z7, H7, I7, r7, k7, e7, q7⟩ => ?_))
      subst e7
      cases r7
      exact wpAny_truthy_bool ⟨H7, I7, q7⟩
theorem mt_chain3 {op op' op'' : CmpOp} {r r' r'' : R2} {f f' f'' : M → M → HpM → Option M} (ho : OpR X (compareOp op) r) (hf : OpM X.K r f) (ho' : OpR X (compareOp op') r') (hf' : OpM X.K r' f') (ho'' : OpR X (compareOp op'') r'') (hf'' : OpM X.K r'' f'')
    (ha : PE X a (tM X.K ma)) (hb : PE X b (tM X.K mb)) (hc : PE X c (tM X.K mc)) (he : PE X e (tM X.K md)) (hm : lastMarks [op, op', op''] [b, c, e] = false) :
    PT X (.Compare a [op, op', op''] [b, c, e] pos) (bM X.K (tV (mChain3 f f' f'' ma mb mc md))) := (pt_chain3 ho ho' ho'' ha hb hc he hm).imp <| by
  rintro σ H Q ⟨α, ρ, h, d, h', hσ, hr, e, k⟩
  obtain ⟨z, h0, e0, e'⟩ := bnd_inv e
  obtain ⟨q0, rfl, e'⟩ := asB_inv e'
  cases e'
  obtain ⟨x, h1, e1, e⟩ := bnd_inv e0
  obtain ⟨y, h2, e2, e⟩ := bnd_inv e
  obtain ⟨z, e3, e⟩ := Option.bind_eq_some_iff.mp e
  obtain ⟨q, rfl, e⟩ := asB_inv e
  refine ⟨α, ρ, h, x, h1, hσ, hr, e1, fun α1 H1 u ev1 hr1 rx => ⟨α1, ρ, h1, y, h2, hσ.ev ev1, hr1, e2, fun α2 H2 v ev2 hr2 ry =>
    hf α2 _ H2 x y _ u v _ hr2 (rx.ev ev2) ry e3 fun H3 w s rw => ⟨q, rw, ?_⟩⟩⟩
  have hr3 := hr2.same s
  have ev3 := (ev1.trans ev2).trans (Ev.same (α := α2) s)
  cases q with
  | false => cases e; exact ⟨false, rfl, k α2 H3 ev3 hr3⟩
  | true =>
    obtain ⟨w', h4, e4, e⟩ := bnd_inv e
    obtain ⟨z', e5, e⟩ := Option.bind_eq_some_iff.mp e
    obtain ⟨q', rfl, e⟩ := asB_inv e
    refine ⟨α2, ρ, h2, w', h4, hσ.ev ev3, hr3, e4, fun α4 H4 v4 ev4 hr4 r4 => hf' α4 _ H4 y w' _ v v4 _ hr4 ((ry.ev (.same s)).ev ev4) r4 e5 fun H5 w5 s5 r5 => ⟨q', r5, ?_⟩⟩
    have hr5 := hr4.same s5
    have ev5 := (ev3.trans ev4).trans (Ev.same (α := α4) s5)
    cases q' with
    | false => cases e; exact ⟨false, rfl, k α4 H5 ev5 hr5⟩
    | true =>
      obtain ⟨w6, h6, e6, e⟩ := bnd_inv e
      obtain ⟨e7, e8⟩ := map_inv e
      dsimp only at e7 e8
      subst e8
      exact ⟨α4, ρ, h4, w6, _, hσ.ev ev5, hr5, e6, fun α6 H6 v6 ev6 hr6 r6 => hf'' α6 _ H6 w' w6 _ v4 v6 _ hr6 ((r4.ev (.same s5)).ev ev6) r6 e7 fun H7 w7 s7 r7 => ⟨_, r7, k α6 H7 ((ev5.trans ev6).trans (.same s7)) (hr6.same s7)⟩⟩
end
end L2
set_option Elab.async false
set_option linter.all false
namespace L2
open PySem PySem.Spec PyProof.Rows
section
variable {X : Cx} {a b c d : Expr} {es : List Expr} {ma mb mc md : FE} {mas : FA}
theorem ma_1 (ha : PE X a (tM X.K ma)) (h1 : notStar a = true) : PA X [a] (aM X.K (mCons ma mNil)) := ma_cons ha ma_nil h1
theorem ma_2 (ha : PE X a (tM X.K ma)) (hb : PE X b (tM X.K mb)) (h1 : notStar a = true) (h2 : notStar b = true) : PA X [a, b] (aM X.K (mCons ma (mCons mb mNil))) := ma_cons ha (ma_1 hb h2) h1
theorem ma_3 (ha : PE X a (tM X.K ma)) (hb : PE X b (tM X.K mb)) (hc : PE X c (tM X.K mc)) (h1 : notStar a = true) (h2 : notStar b = true) (h3 : notStar c = true) : PA X [a, b, c] (aM X.K (mCons ma (mCons mb (mCons mc mNil)))) := ma_cons ha (ma_2 hb hc h2 h3) h1
theorem ma_c4 (ha : PE X a (tM X.K ma)) (hb : PE X b (tM X.K mb)) (hc : PE X c (tM X.K mc)) (hd : PE X d (tM X.K md)) (hr : PA X es (aM X.K mas)) (h1 : notStar a = true) (h2 : notStar b = true) (h3 : notStar c = true) (h4 : notStar d = true) : PA X (a :: b :: c :: d :: es) (aM X.K (mCons ma (mCons mb (mCons mc (mCons md mas))))) := ma_cons ha (ma_cons hb (ma_cons hc (ma_cons hd hr h4) h3) h2) h1
theorem ma_4 (ha : PE X a (tM X.K ma)) (hb : PE X b (tM X.K mb)) (hc : PE X c (tM X.K mc)) (hd : PE X d (tM X.K md)) (h1 : notStar a = true) (h2 : notStar b = true) (h3 : notStar c = true) (h4 : notStar d = true) : PA X [a, b, c, d] (aM X.K (mCons ma (mCons mb (mCons mc (mCons md mNil))))) := ma_c4 ha hb hc hd ma_nil h1 h2 h3 h4
end
end L2
set_option Elab.async false
set_option linter.all false
set_option maxRecDepth 100000
set_option maxHeartbeats 1000000
set_option Elab.async false
set_option linter.all false
set_option maxRecDepth 100000
set_option maxHeartbeats 1000000
set_option Elab.async false
set_option linter.all false
set_option maxRecDepth 100000
set_option Elab.async false
set_option linter.all false
set_option maxRecDepth 100000

set_option Elab.async false
set_option linter.all false
set_option maxRecDepth 100000
set_option maxHeartbeats 4000000
namespace K39
open PySem L2
def top (i : Nat) : Stmt := PySem.Challenge.pw_webstore_k39_what_patterns_are.main.body.getD i (.Pass ⟨0, 0, 0, 0⟩)
abbrev s_is_name : Stmt := top 2
abbrev s_is_number : Stmt := top 3
abbrev s_is_value : Stmt := top 4
abbrev s_is_test : Stmt := top 6
abbrev s_is_way : Stmt := top 9
abbrev s_are_times : Stmt := top 10
abbrev s_is_pattern : Stmt := top 13
abbrev s_is_spot : Stmt := top 14
abbrev s_is_bow : Stmt := top 15
abbrev s_is_pair : Stmt := top 16
abbrev s_is_spot_number : Stmt := top 17
abbrev s__law_box : Stmt := top 19
abbrev s__law_take : Stmt := top 20
abbrev s__law_value : Stmt := top 21
abbrev s__law_test : Stmt := top 22
abbrev s__law_way : Stmt := top 23
abbrev s__law_bows : Stmt := top 24
abbrev s__law_pairs : Stmt := top 25
abbrev s__law_spots : Stmt := top 26
abbrev s__law_number : Stmt := top 27
abbrev s__law_name : Stmt := top 28
abbrev s__law_worded : Stmt := top 29
abbrev s__law_right_test : Stmt := top 30
abbrev s__law_right_way : Stmt := top 31
abbrev s__law_right_bow : Stmt := top 32
abbrev s__law_right_pair : Stmt := top 33
abbrev s__law_due : Stmt := top 34
abbrev s__law_odd : Stmt := top 35
abbrev s__law_spoilt : Stmt := top 36
abbrev s__law_folded : Stmt := top 37
abbrev s_law : Stmt := top 38
theorem sc_is_name : FnScope ["thing"] ["thing"] (defScope s_is_name) := .of rfl rfl rfl rfl (by decide +kernel)
theorem sc_is_number : FnScope ["thing"] ["thing"] (defScope s_is_number) := .of rfl rfl rfl rfl (by decide +kernel)
theorem sc_is_value : FnScope ["thing"] ["thing"] (defScope s_is_value) := .of rfl rfl rfl rfl (by decide +kernel)
theorem sc_is_test : FnScope ["thing", "word", "parts"] ["thing"] (defScope s_is_test) := .of rfl rfl rfl rfl (by decide +kernel)
theorem sc_is_way : FnScope ["thing", "word", "parts"] ["thing"] (defScope s_is_way) := .of rfl rfl rfl rfl (by decide +kernel)
theorem sc_are_times : FnScope ["low", "high"] ["low", "high"] (defScope s_are_times) := .of rfl rfl rfl rfl (by decide +kernel)
theorem sc_is_pattern : FnScope ["thing", "spots", "bows", "pairs"] ["thing"] (defScope s_is_pattern) := .of rfl rfl rfl rfl (by decide +kernel)
theorem sc_is_spot : FnScope ["thing"] ["thing"] (defScope s_is_spot) := .of rfl rfl rfl rfl (by decide +kernel)
theorem sc_is_bow : FnScope ["thing", "many", "i", "j", "sort", "way"] ["thing", "many"] (defScope s_is_bow) := .of rfl rfl rfl rfl (by decide +kernel)
theorem sc_is_pair : FnScope ["thing", "many", "word", "i", "name", "j", "other"] ["thing", "many"] (defScope s_is_pair) := .of rfl rfl rfl rfl (by decide +kernel)
theorem sc_is_spot_number : FnScope ["thing", "many"] ["thing", "many"] (defScope s_is_spot_number) := .of rfl rfl rfl rfl (by decide +kernel)
theorem sc__law_box : FnScope ["_law_script", "_law_k", "_law_cell"] ["_law_script", "_law_k"] (defScope s__law_box) := .of rfl rfl rfl rfl (by decide +kernel)
theorem sc__law_take : FnScope ["_law_box_here", "_law_many", "_law_digit", "_law_m"] ["_law_box_here", "_law_many"] (defScope s__law_take) := .of rfl rfl rfl rfl (by decide +kernel)
theorem sc__law_value : FnScope ["_law_box_here", "_law_far", "_law_some"] ["_law_box_here"] (defScope s__law_value) := .of rfl rfl rfl rfl (by decide +kernel)
theorem sc__law_test : FnScope ["_law_box_here", "_law_deep", "_law_how", "_law_name_here", "_law_one", "_law_other", "_law_some"] ["_law_box_here", "_law_deep"] (defScope s__law_test) := .of rfl rfl rfl rfl (by decide +kernel)
theorem sc__law_way : FnScope ["_law_box_here", "_law_deep", "_law_how", "_law_turn", "_law_low"] ["_law_box_here", "_law_deep"] (defScope s__law_way) := .of rfl rfl rfl rfl (by decide +kernel)
theorem sc__law_bows : FnScope ["_law_box_here", "_law_many", "_law_deep", "_law_bows_here", "_law_k", "_law_sort"] ["_law_box_here", "_law_many", "_law_deep"] (defScope s__law_bows) := .of rfl rfl rfl rfl (by decide +kernel)
theorem sc__law_pairs : FnScope ["_law_box_here", "_law_many", "_law_pairs_here", "_law_k", "_law_i", "_law_j", "_law_names", "_law_some"] ["_law_box_here", "_law_many"] (defScope s__law_pairs) := .of rfl rfl rfl rfl (by decide +kernel)
theorem sc__law_spots : FnScope ["_law_box_here", "_law_many", "_law_spots_here", "_law_easy", "_law_k", "_law_kind", "_law_test_here"] ["_law_box_here", "_law_many"] (defScope s__law_spots) := .of rfl rfl rfl rfl (by decide +kernel)
theorem sc__law_number : FnScope ["_law_thing"] ["_law_thing"] (defScope s__law_number) := .of rfl rfl rfl rfl (by decide +kernel)
theorem sc__law_name : FnScope ["_law_thing"] ["_law_thing"] (defScope s__law_name) := .of rfl rfl rfl rfl (by decide +kernel)
theorem sc__law_worded : FnScope ["_law_thing", "_law_lengths"] ["_law_thing", "_law_lengths"] (defScope s__law_worded) := .of rfl rfl rfl rfl (by decide +kernel)
theorem sc__law_right_test : FnScope ["_law_thing", "_law_lengths", "_law_name_here"] ["_law_thing"] (defScope s__law_right_test) := .of rfl rfl rfl rfl (by decide +kernel)
theorem sc__law_right_way : FnScope ["_law_thing"] ["_law_thing"] (defScope s__law_right_way) := .of rfl rfl rfl rfl (by decide +kernel)
theorem sc__law_right_bow : FnScope ["_law_thing", "_law_many", "_law_n"] ["_law_thing", "_law_many"] (defScope s__law_right_bow) := .of rfl rfl rfl rfl (by decide +kernel)
theorem sc__law_right_pair : FnScope ["_law_thing", "_law_many", "_law_numbers", "_law_names", "_law_n"] ["_law_thing", "_law_many"] (defScope s__law_right_pair) := .of rfl rfl rfl rfl (by decide +kernel)
theorem sc__law_due : FnScope ["_law_thing", "_law_part", "_law_spots_here", "_law_bows_here", "_law_pairs_here", "_law_spot", "_law_fine"] ["_law_thing"] (defScope s__law_due) := .of rfl rfl rfl rfl (by decide +kernel)
theorem sc__law_odd : FnScope ["_law_box_here", "_law_thing", "_law_some"] ["_law_box_here", "_law_thing"] (defScope s__law_odd) := .of rfl rfl rfl rfl (by decide +kernel)
theorem sc__law_spoilt : FnScope ["_law_box_here", "_law_thing", "_law_at", "_law_how"] ["_law_box_here", "_law_thing"] (defScope s__law_spoilt) := .of rfl rfl rfl rfl (by decide +kernel)
theorem sc__law_folded : FnScope ["_law_script", "_law_many", "_law_cells", "_law_k", "_law_cell"] ["_law_script", "_law_many"] (defScope s__law_folded) := .of rfl rfl rfl rfl (by decide +kernel)
theorem sc_law : FnScope ["_law_script", "_law_cells", "_law_k", "_law_box_here", "_law_many", "_law_thing", "_law_found"] ["_law_script"] (defScope s_law) := .of rfl rfl rfl rfl (by decide +kernel)
theorem q3 : NmOk (defScope s_is_name) "LONGEST_NAME" .globalImplicit := (by decide +kernel)
theorem q1 : NmOk (defScope s_is_name) "all" .globalImplicit := (by decide +kernel)
theorem q5 : NmOk (defScope s_is_name) "isinstance" .globalImplicit := (by decide +kernel)
theorem q2 : NmOk (defScope s_is_name) "len" .globalImplicit := (by decide +kernel)
theorem q4 : NmOk (defScope s_is_name) "str" .globalImplicit := (by decide +kernel)
theorem q0 : NmOk (defScope s_is_name) "thing" .local := (by decide +kernel)
theorem q7 : NmOk (defScope s_is_number) "bool" .globalImplicit := (by decide +kernel)
theorem q9 : NmOk (defScope s_is_number) "int" .globalImplicit := (by decide +kernel)
theorem q8 : NmOk (defScope s_is_number) "isinstance" .globalImplicit := (by decide +kernel)
theorem q6 : NmOk (defScope s_is_number) "thing" .local := (by decide +kernel)
theorem q13 : NmOk (defScope s_is_value) "is_number" .globalImplicit := (by decide +kernel)
theorem q12 : NmOk (defScope s_is_value) "isinstance" .globalImplicit := (by decide +kernel)
theorem q11 : NmOk (defScope s_is_value) "str" .globalImplicit := (by decide +kernel)
theorem q10 : NmOk (defScope s_is_value) "thing" .local := (by decide +kernel)
theorem q19 : NmOk (defScope s_is_test) "is_name" .globalImplicit := (by decide +kernel)
theorem q15 : NmOk (defScope s_is_test) "is_test" .globalImplicit := (by decide +kernel)
theorem q18 : NmOk (defScope s_is_test) "is_value" .globalImplicit := (by decide +kernel)
theorem q22 : NmOk (defScope s_is_test) "isinstance" .globalImplicit := (by decide +kernel)
theorem q16 : NmOk (defScope s_is_test) "len" .globalImplicit := (by decide +kernel)
theorem q14 : NmOk (defScope s_is_test) "parts" .local := (by decide +kernel)
theorem q20 : NmOk (defScope s_is_test) "thing" .local := (by decide +kernel)
theorem q21 : NmOk (defScope s_is_test) "tuple" .globalImplicit := (by decide +kernel)
theorem q17 : NmOk (defScope s_is_test) "word" .local := (by decide +kernel)
theorem q25 : NmOk (defScope s_is_way) "are_times" .globalImplicit := (by decide +kernel)
theorem q28 : NmOk (defScope s_is_way) "is_name" .globalImplicit := (by decide +kernel)
theorem q24 : NmOk (defScope s_is_way) "is_way" .globalImplicit := (by decide +kernel)
theorem q31 : NmOk (defScope s_is_way) "isinstance" .globalImplicit := (by decide +kernel)
theorem q26 : NmOk (defScope s_is_way) "len" .globalImplicit := (by decide +kernel)
theorem q23 : NmOk (defScope s_is_way) "parts" .local := (by decide +kernel)
theorem q29 : NmOk (defScope s_is_way) "thing" .local := (by decide +kernel)
theorem q30 : NmOk (defScope s_is_way) "tuple" .globalImplicit := (by decide +kernel)
theorem q27 : NmOk (defScope s_is_way) "word" .local := (by decide +kernel)
theorem q34 : NmOk (defScope s_are_times) "MOST_TIMES" .globalImplicit := (by decide +kernel)
theorem q33 : NmOk (defScope s_are_times) "high" .local := (by decide +kernel)
theorem q35 : NmOk (defScope s_are_times) "is_number" .globalImplicit := (by decide +kernel)
theorem q32 : NmOk (defScope s_are_times) "low" .local := (by decide +kernel)
theorem q37 : NmOk (defScope s_is_pattern) "all" .globalImplicit := (by decide +kernel)
theorem q38 : NmOk (defScope s_is_pattern) "bows" .local := (by decide +kernel)
theorem q42 : NmOk (defScope s_is_pattern) "isinstance" .globalImplicit := (by decide +kernel)
theorem q40 : NmOk (defScope s_is_pattern) "len" .globalImplicit := (by decide +kernel)
theorem q36 : NmOk (defScope s_is_pattern) "pairs" .local := (by decide +kernel)
theorem q39 : NmOk (defScope s_is_pattern) "spots" .cell := (by decide +kernel)
theorem q43 : NmOk (defScope s_is_pattern) "thing" .local := (by decide +kernel)
theorem q41 : NmOk (defScope s_is_pattern) "tuple" .globalImplicit := (by decide +kernel)
theorem q46 : NmOk (defScope s_is_spot) "is_name" .globalImplicit := (by decide +kernel)
theorem q45 : NmOk (defScope s_is_spot) "is_test" .globalImplicit := (by decide +kernel)
theorem q49 : NmOk (defScope s_is_spot) "isinstance" .globalImplicit := (by decide +kernel)
theorem q47 : NmOk (defScope s_is_spot) "len" .globalImplicit := (by decide +kernel)
theorem q44 : NmOk (defScope s_is_spot) "thing" .local := (by decide +kernel)
theorem q48 : NmOk (defScope s_is_spot) "tuple" .globalImplicit := (by decide +kernel)
theorem q53 : NmOk (defScope s_is_bow) "BOW_SORTS" .globalImplicit := (by decide +kernel)
theorem q57 : NmOk (defScope s_is_bow) "i" .local := (by decide +kernel)
theorem q56 : NmOk (defScope s_is_bow) "is_spot_number" .globalImplicit := (by decide +kernel)
theorem q51 : NmOk (defScope s_is_bow) "is_way" .globalImplicit := (by decide +kernel)
theorem q61 : NmOk (defScope s_is_bow) "isinstance" .globalImplicit := (by decide +kernel)
theorem q54 : NmOk (defScope s_is_bow) "j" .local := (by decide +kernel)
theorem q59 : NmOk (defScope s_is_bow) "len" .globalImplicit := (by decide +kernel)
theorem q55 : NmOk (defScope s_is_bow) "many" .local := (by decide +kernel)
theorem q52 : NmOk (defScope s_is_bow) "sort" .local := (by decide +kernel)
theorem q58 : NmOk (defScope s_is_bow) "thing" .local := (by decide +kernel)
theorem q60 : NmOk (defScope s_is_bow) "tuple" .globalImplicit := (by decide +kernel)
theorem q50 : NmOk (defScope s_is_bow) "way" .local := (by decide +kernel)
theorem q68 : NmOk (defScope s_is_pair) "i" .local := (by decide +kernel)
theorem q63 : NmOk (defScope s_is_pair) "is_name" .globalImplicit := (by decide +kernel)
theorem q66 : NmOk (defScope s_is_pair) "is_spot_number" .globalImplicit := (by decide +kernel)
theorem q73 : NmOk (defScope s_is_pair) "isinstance" .globalImplicit := (by decide +kernel)
theorem q64 : NmOk (defScope s_is_pair) "j" .local := (by decide +kernel)
theorem q71 : NmOk (defScope s_is_pair) "len" .globalImplicit := (by decide +kernel)
theorem q65 : NmOk (defScope s_is_pair) "many" .local := (by decide +kernel)
theorem q67 : NmOk (defScope s_is_pair) "name" .local := (by decide +kernel)
theorem q62 : NmOk (defScope s_is_pair) "other" .local := (by decide +kernel)
theorem q69 : NmOk (defScope s_is_pair) "thing" .local := (by decide +kernel)
theorem q72 : NmOk (defScope s_is_pair) "tuple" .globalImplicit := (by decide +kernel)
theorem q70 : NmOk (defScope s_is_pair) "word" .local := (by decide +kernel)
theorem q76 : NmOk (defScope s_is_spot_number) "is_number" .globalImplicit := (by decide +kernel)
theorem q75 : NmOk (defScope s_is_spot_number) "many" .local := (by decide +kernel)
theorem q74 : NmOk (defScope s_is_spot_number) "thing" .local := (by decide +kernel)
theorem q77 : NmOk (defScope s__law_box) "_law_cell" .local := (by decide +kernel)
theorem q80 : NmOk (defScope s__law_box) "_law_k" .local := (by decide +kernel)
theorem q81 : NmOk (defScope s__law_box) "_law_script" .local := (by decide +kernel)
theorem q78 : NmOk (defScope s__law_box) "abs" .globalImplicit := (by decide +kernel)
theorem q79 : NmOk (defScope s__law_box) "int" .globalImplicit := (by decide +kernel)
theorem q82 : NmOk (defScope s__law_box) "len" .globalImplicit := (by decide +kernel)
theorem q85 : NmOk (defScope s__law_take) "_law_box_here" .local := (by decide +kernel)
theorem q86 : NmOk (defScope s__law_take) "_law_digit" .local := (by decide +kernel)
theorem q83 : NmOk (defScope s__law_take) "_law_m" .local := (by decide +kernel)
theorem q84 : NmOk (defScope s__law_take) "_law_many" .local := (by decide +kernel)
theorem q88 : NmOk (defScope s__law_value) "_law_box_here" .local := (by decide +kernel)
theorem q90 : NmOk (defScope s__law_value) "_law_far" .local := (by decide +kernel)
theorem q87 : NmOk (defScope s__law_value) "_law_some" .local := (by decide +kernel)
theorem q89 : NmOk (defScope s__law_value) "_law_take" .globalImplicit := (by decide +kernel)
theorem q93 : NmOk (defScope s__law_test) "_law_box_here" .local := (by decide +kernel)
theorem q96 : NmOk (defScope s__law_test) "_law_deep" .local := (by decide +kernel)
theorem q95 : NmOk (defScope s__law_test) "_law_how" .local := (by decide +kernel)
theorem q92 : NmOk (defScope s__law_test) "_law_name_here" .local := (by decide +kernel)
theorem q97 : NmOk (defScope s__law_test) "_law_one" .local := (by decide +kernel)
theorem q98 : NmOk (defScope s__law_test) "_law_other" .local := (by decide +kernel)
theorem q91 : NmOk (defScope s__law_test) "_law_some" .local := (by decide +kernel)
theorem q100 : NmOk (defScope s__law_test) "_law_take" .globalImplicit := (by decide +kernel)
theorem q99 : NmOk (defScope s__law_test) "_law_test" .globalImplicit := (by decide +kernel)
theorem q94 : NmOk (defScope s__law_test) "_law_value" .globalImplicit := (by decide +kernel)
theorem q102 : NmOk (defScope s__law_way) "_law_box_here" .local := (by decide +kernel)
theorem q103 : NmOk (defScope s__law_way) "_law_deep" .local := (by decide +kernel)
theorem q101 : NmOk (defScope s__law_way) "_law_how" .local := (by decide +kernel)
theorem q106 : NmOk (defScope s__law_way) "_law_low" .local := (by decide +kernel)
theorem q105 : NmOk (defScope s__law_way) "_law_take" .globalImplicit := (by decide +kernel)
theorem q107 : NmOk (defScope s__law_way) "_law_turn" .local := (by decide +kernel)
theorem q104 : NmOk (defScope s__law_way) "_law_way" .globalImplicit := (by decide +kernel)
theorem q108 : NmOk (defScope s__law_bows) "_law_bows_here" .local := (by decide +kernel)
theorem q110 : NmOk (defScope s__law_bows) "_law_box_here" .local := (by decide +kernel)
theorem q116 : NmOk (defScope s__law_bows) "_law_deep" .local := (by decide +kernel)
theorem q113 : NmOk (defScope s__law_bows) "_law_k" .local := (by decide +kernel)
theorem q114 : NmOk (defScope s__law_bows) "_law_many" .local := (by decide +kernel)
theorem q115 : NmOk (defScope s__law_bows) "_law_sort" .local := (by decide +kernel)
theorem q111 : NmOk (defScope s__law_bows) "_law_take" .globalImplicit := (by decide +kernel)
theorem q117 : NmOk (defScope s__law_bows) "_law_way" .globalImplicit := (by decide +kernel)
theorem q112 : NmOk (defScope s__law_bows) "range" .globalImplicit := (by decide +kernel)
theorem q109 : NmOk (defScope s__law_bows) "tuple" .globalImplicit := (by decide +kernel)
theorem q120 : NmOk (defScope s__law_pairs) "_law_box_here" .cell := (by decide +kernel)
theorem q125 : NmOk (defScope s__law_pairs) "_law_i" .local := (by decide +kernel)
theorem q126 : NmOk (defScope s__law_pairs) "_law_j" .local := (by decide +kernel)
theorem q123 : NmOk (defScope s__law_pairs) "_law_k" .local := (by decide +kernel)
theorem q128 : NmOk (defScope s__law_pairs) "_law_many" .local := (by decide +kernel)
theorem q127 : NmOk (defScope s__law_pairs) "_law_names" .local := (by decide +kernel)
theorem q118 : NmOk (defScope s__law_pairs) "_law_pairs_here" .local := (by decide +kernel)
theorem q124 : NmOk (defScope s__law_pairs) "_law_some" .local := (by decide +kernel)
theorem q121 : NmOk (defScope s__law_pairs) "_law_take" .globalImplicit := (by decide +kernel)
theorem q122 : NmOk (defScope s__law_pairs) "range" .globalImplicit := (by decide +kernel)
theorem q119 : NmOk (defScope s__law_pairs) "tuple" .globalImplicit := (by decide +kernel)
theorem q136 : NmOk (defScope s__law_spots) "_law_box_here" .local := (by decide +kernel)
theorem q138 : NmOk (defScope s__law_spots) "_law_easy" .local := (by decide +kernel)
theorem q133 : NmOk (defScope s__law_spots) "_law_k" .local := (by decide +kernel)
theorem q134 : NmOk (defScope s__law_spots) "_law_kind" .local := (by decide +kernel)
theorem q131 : NmOk (defScope s__law_spots) "_law_many" .local := (by decide +kernel)
theorem q129 : NmOk (defScope s__law_spots) "_law_spots_here" .local := (by decide +kernel)
theorem q137 : NmOk (defScope s__law_spots) "_law_take" .globalImplicit := (by decide +kernel)
theorem q139 : NmOk (defScope s__law_spots) "_law_test" .globalImplicit := (by decide +kernel)
theorem q135 : NmOk (defScope s__law_spots) "_law_test_here" .local := (by decide +kernel)
theorem q132 : NmOk (defScope s__law_spots) "range" .globalImplicit := (by decide +kernel)
theorem q130 : NmOk (defScope s__law_spots) "tuple" .globalImplicit := (by decide +kernel)
theorem q140 : NmOk (defScope s__law_number) "_law_thing" .local := (by decide +kernel)
theorem q141 : NmOk (defScope s__law_number) "bool" .globalImplicit := (by decide +kernel)
theorem q143 : NmOk (defScope s__law_number) "int" .globalImplicit := (by decide +kernel)
theorem q142 : NmOk (defScope s__law_number) "isinstance" .globalImplicit := (by decide +kernel)
theorem q144 : NmOk (defScope s__law_name) "_law_thing" .local := (by decide +kernel)
theorem q145 : NmOk (defScope s__law_name) "all" .globalImplicit := (by decide +kernel)
theorem q148 : NmOk (defScope s__law_name) "isinstance" .globalImplicit := (by decide +kernel)
theorem q146 : NmOk (defScope s__law_name) "len" .globalImplicit := (by decide +kernel)
theorem q147 : NmOk (defScope s__law_name) "str" .globalImplicit := (by decide +kernel)
theorem q151 : NmOk (defScope s__law_worded) "_law_lengths" .local := (by decide +kernel)
theorem q149 : NmOk (defScope s__law_worded) "_law_thing" .local := (by decide +kernel)
theorem q153 : NmOk (defScope s__law_worded) "isinstance" .globalImplicit := (by decide +kernel)
theorem q150 : NmOk (defScope s__law_worded) "len" .globalImplicit := (by decide +kernel)
theorem q152 : NmOk (defScope s__law_worded) "str" .globalImplicit := (by decide +kernel)
theorem q154 : NmOk (defScope s__law_worded) "tuple" .globalImplicit := (by decide +kernel)
theorem q159 : NmOk (defScope s__law_right_test) "_law_lengths" .local := (by decide +kernel)
theorem q158 : NmOk (defScope s__law_right_test) "_law_name" .globalImplicit := (by decide +kernel)
theorem q157 : NmOk (defScope s__law_right_test) "_law_name_here" .local := (by decide +kernel)
theorem q155 : NmOk (defScope s__law_right_test) "_law_thing" .local := (by decide +kernel)
theorem q160 : NmOk (defScope s__law_right_test) "_law_worded" .globalImplicit := (by decide +kernel)
theorem q156 : NmOk (defScope s__law_right_test) "all" .globalImplicit := (by decide +kernel)
theorem q167 : NmOk (defScope s__law_right_way) "_law_name" .globalImplicit := (by decide +kernel)
theorem q164 : NmOk (defScope s__law_right_way) "_law_number" .globalImplicit := (by decide +kernel)
theorem q163 : NmOk (defScope s__law_right_way) "_law_right_way" .globalImplicit := (by decide +kernel)
theorem q161 : NmOk (defScope s__law_right_way) "_law_thing" .local := (by decide +kernel)
theorem q168 : NmOk (defScope s__law_right_way) "_law_worded" .globalImplicit := (by decide +kernel)
theorem q162 : NmOk (defScope s__law_right_way) "all" .globalImplicit := (by decide +kernel)
theorem q166 : NmOk (defScope s__law_right_way) "isinstance" .globalImplicit := (by decide +kernel)
theorem q165 : NmOk (defScope s__law_right_way) "str" .globalImplicit := (by decide +kernel)
theorem q174 : NmOk (defScope s__law_right_bow) "_law_many" .local := (by decide +kernel)
theorem q173 : NmOk (defScope s__law_right_bow) "_law_n" .local := (by decide +kernel)
theorem q175 : NmOk (defScope s__law_right_bow) "_law_number" .globalImplicit := (by decide +kernel)
theorem q170 : NmOk (defScope s__law_right_bow) "_law_right_way" .globalImplicit := (by decide +kernel)
theorem q169 : NmOk (defScope s__law_right_bow) "_law_thing" .local := (by decide +kernel)
theorem q172 : NmOk (defScope s__law_right_bow) "isinstance" .globalImplicit := (by decide +kernel)
theorem q176 : NmOk (defScope s__law_right_bow) "len" .globalImplicit := (by decide +kernel)
theorem q171 : NmOk (defScope s__law_right_bow) "str" .globalImplicit := (by decide +kernel)
theorem q177 : NmOk (defScope s__law_right_bow) "tuple" .globalImplicit := (by decide +kernel)
theorem q182 : NmOk (defScope s__law_right_pair) "_law_many" .local := (by decide +kernel)
theorem q181 : NmOk (defScope s__law_right_pair) "_law_n" .local := (by decide +kernel)
theorem q178 : NmOk (defScope s__law_right_pair) "_law_names" .local := (by decide +kernel)
theorem q183 : NmOk (defScope s__law_right_pair) "_law_number" .globalImplicit := (by decide +kernel)
theorem q180 : NmOk (defScope s__law_right_pair) "_law_numbers" .local := (by decide +kernel)
theorem q184 : NmOk (defScope s__law_right_pair) "_law_thing" .local := (by decide +kernel)
theorem q185 : NmOk (defScope s__law_right_pair) "_law_worded" .globalImplicit := (by decide +kernel)
theorem q179 : NmOk (defScope s__law_right_pair) "all" .globalImplicit := (by decide +kernel)
theorem q190 : NmOk (defScope s__law_due) "_law_bows_here" .local := (by decide +kernel)
theorem q186 : NmOk (defScope s__law_due) "_law_fine" .local := (by decide +kernel)
theorem q193 : NmOk (defScope s__law_due) "_law_name" .globalImplicit := (by decide +kernel)
theorem q191 : NmOk (defScope s__law_due) "_law_pairs_here" .local := (by decide +kernel)
theorem q198 : NmOk (defScope s__law_due) "_law_part" .local := (by decide +kernel)
theorem q194 : NmOk (defScope s__law_due) "_law_right_test" .globalImplicit := (by decide +kernel)
theorem q192 : NmOk (defScope s__law_due) "_law_spot" .local := (by decide +kernel)
theorem q188 : NmOk (defScope s__law_due) "_law_spots_here" .cell := (by decide +kernel)
theorem q197 : NmOk (defScope s__law_due) "_law_thing" .local := (by decide +kernel)
theorem q187 : NmOk (defScope s__law_due) "all" .globalImplicit := (by decide +kernel)
theorem q196 : NmOk (defScope s__law_due) "isinstance" .globalImplicit := (by decide +kernel)
theorem q189 : NmOk (defScope s__law_due) "len" .globalImplicit := (by decide +kernel)
theorem q195 : NmOk (defScope s__law_due) "tuple" .globalImplicit := (by decide +kernel)
theorem q200 : NmOk (defScope s__law_odd) "_law_box_here" .local := (by decide +kernel)
theorem q199 : NmOk (defScope s__law_odd) "_law_some" .local := (by decide +kernel)
theorem q202 : NmOk (defScope s__law_odd) "_law_take" .globalImplicit := (by decide +kernel)
theorem q203 : NmOk (defScope s__law_odd) "_law_thing" .local := (by decide +kernel)
theorem q201 : NmOk (defScope s__law_odd) "len" .globalImplicit := (by decide +kernel)
theorem q205 : NmOk (defScope s__law_spoilt) "_law_at" .local := (by decide +kernel)
theorem q206 : NmOk (defScope s__law_spoilt) "_law_box_here" .local := (by decide +kernel)
theorem q208 : NmOk (defScope s__law_spoilt) "_law_how" .local := (by decide +kernel)
theorem q214 : NmOk (defScope s__law_spoilt) "_law_odd" .globalImplicit := (by decide +kernel)
theorem q207 : NmOk (defScope s__law_spoilt) "_law_spoilt" .globalImplicit := (by decide +kernel)
theorem q210 : NmOk (defScope s__law_spoilt) "_law_take" .globalImplicit := (by decide +kernel)
theorem q204 : NmOk (defScope s__law_spoilt) "_law_thing" .local := (by decide +kernel)
theorem q213 : NmOk (defScope s__law_spoilt) "isinstance" .globalImplicit := (by decide +kernel)
theorem q211 : NmOk (defScope s__law_spoilt) "len" .globalImplicit := (by decide +kernel)
theorem q209 : NmOk (defScope s__law_spoilt) "list" .globalImplicit := (by decide +kernel)
theorem q212 : NmOk (defScope s__law_spoilt) "tuple" .globalImplicit := (by decide +kernel)
theorem q219 : NmOk (defScope s__law_folded) "_law_cell" .local := (by decide +kernel)
theorem q215 : NmOk (defScope s__law_folded) "_law_cells" .local := (by decide +kernel)
theorem q220 : NmOk (defScope s__law_folded) "_law_k" .local := (by decide +kernel)
theorem q217 : NmOk (defScope s__law_folded) "_law_many" .local := (by decide +kernel)
theorem q216 : NmOk (defScope s__law_folded) "_law_script" .local := (by decide +kernel)
theorem q218 : NmOk (defScope s__law_folded) "enumerate" .globalImplicit := (by decide +kernel)
theorem q221 : NmOk (defScope s__law_folded) "list" .globalImplicit := (by decide +kernel)
theorem q238 : NmOk (defScope s_law) "_law_bows" .globalImplicit := (by decide +kernel)
theorem q241 : NmOk (defScope s_law) "_law_box" .globalImplicit := (by decide +kernel)
theorem q233 : NmOk (defScope s_law) "_law_box_here" .local := (by decide +kernel)
theorem q223 : NmOk (defScope s_law) "_law_cells" .local := (by decide +kernel)
theorem q230 : NmOk (defScope s_law) "_law_due" .globalImplicit := (by decide +kernel)
theorem q243 : NmOk (defScope s_law) "_law_folded" .globalImplicit := (by decide +kernel)
theorem q228 : NmOk (defScope s_law) "_law_found" .local := (by decide +kernel)
theorem q227 : NmOk (defScope s_law) "_law_k" .local := (by decide +kernel)
theorem q236 : NmOk (defScope s_law) "_law_many" .local := (by decide +kernel)
theorem q239 : NmOk (defScope s_law) "_law_pairs" .globalImplicit := (by decide +kernel)
theorem q242 : NmOk (defScope s_law) "_law_script" .local := (by decide +kernel)
theorem q235 : NmOk (defScope s_law) "_law_spoilt" .globalImplicit := (by decide +kernel)
theorem q237 : NmOk (defScope s_law) "_law_spots" .globalImplicit := (by decide +kernel)
theorem q234 : NmOk (defScope s_law) "_law_take" .globalImplicit := (by decide +kernel)
theorem q229 : NmOk (defScope s_law) "_law_thing" .local := (by decide +kernel)
theorem q231 : NmOk (defScope s_law) "bool" .globalImplicit := (by decide +kernel)
theorem q240 : NmOk (defScope s_law) "int" .globalImplicit := (by decide +kernel)
theorem q222 : NmOk (defScope s_law) "is_pattern" .globalImplicit := (by decide +kernel)
theorem q232 : NmOk (defScope s_law) "isinstance" .globalImplicit := (by decide +kernel)
theorem q224 : NmOk (defScope s_law) "len" .globalImplicit := (by decide +kernel)
theorem q225 : NmOk (defScope s_law) "max" .globalImplicit := (by decide +kernel)
theorem q226 : NmOk (defScope s_law) "range" .globalImplicit := (by decide +kernel)
noncomputable def k_LONGEST_NAME : M := .int 8
noncomputable def k_MOST_TIMES : M := .int 6
noncomputable def k_BOW_SORTS : M := .tup [.str "all", .str "short", .str "plain", .str "any"]
set_option genInjectivity false in
structure Adr where
 f_is_name : Addr
 d_is_name : FuncData
 f_is_number : Addr
 d_is_number : FuncData
 f_is_value : Addr
 d_is_value : FuncData
 f_is_test : Addr
 d_is_test : FuncData
 f_is_way : Addr
 d_is_way : FuncData
 f_are_times : Addr
 d_are_times : FuncData
 f_is_pattern : Addr
 d_is_pattern : FuncData
 f_is_spot : Addr
 d_is_spot : FuncData
 f_is_bow : Addr
 d_is_bow : FuncData
 f_is_pair : Addr
 d_is_pair : FuncData
 f_is_spot_number : Addr
 d_is_spot_number : FuncData
 f__law_box : Addr
 d__law_box : FuncData
 f__law_take : Addr
 d__law_take : FuncData
 f__law_value : Addr
 d__law_value : FuncData
 f__law_test : Addr
 d__law_test : FuncData
 f__law_way : Addr
 d__law_way : FuncData
 f__law_bows : Addr
 d__law_bows : FuncData
 f__law_pairs : Addr
 d__law_pairs : FuncData
 f__law_spots : Addr
 d__law_spots : FuncData
 f__law_number : Addr
 d__law_number : FuncData
 f__law_name : Addr
 d__law_name : FuncData
 f__law_worded : Addr
 d__law_worded : FuncData
 f__law_right_test : Addr
 d__law_right_test : FuncData
 f__law_right_way : Addr
 d__law_right_way : FuncData
 f__law_right_bow : Addr
 d__law_right_bow : FuncData
 f__law_right_pair : Addr
 d__law_right_pair : FuncData
 f__law_due : Addr
 d__law_due : FuncData
 f__law_odd : Addr
 d__law_odd : FuncData
 f__law_spoilt : Addr
 d__law_spoilt : FuncData
 f__law_folded : Addr
 d__law_folded : FuncData
 f_law : Addr
 d_law : FuncData
 u_LONGEST_NAME : Value
 u_MOST_TIMES : Value
 u_BOW_SORTS : Value
structure Txt (K : PySem.W.Frag) (mg : Str → Option Value) (t : Adr) : Prop where
 F_is_name : Fun K "is_name" "is_name" s_is_name t.f_is_name t.d_is_name
 b_is_name : Binds K t.d_is_name ["thing"] []
 m_is_name : mg "is_name" = some (.ref t.f_is_name)
 F_is_number : Fun K "is_number" "is_number" s_is_number t.f_is_number t.d_is_number
 b_is_number : Binds K t.d_is_number ["thing"] []
 m_is_number : mg "is_number" = some (.ref t.f_is_number)
 F_is_value : Fun K "is_value" "is_value" s_is_value t.f_is_value t.d_is_value
 b_is_value : Binds K t.d_is_value ["thing"] []
 m_is_value : mg "is_value" = some (.ref t.f_is_value)
 F_is_test : Fun K "is_test" "is_test" s_is_test t.f_is_test t.d_is_test
 b_is_test : Binds K t.d_is_test ["thing"] []
 m_is_test : mg "is_test" = some (.ref t.f_is_test)
 F_is_way : Fun K "is_way" "is_way" s_is_way t.f_is_way t.d_is_way
 b_is_way : Binds K t.d_is_way ["thing"] []
 m_is_way : mg "is_way" = some (.ref t.f_is_way)
 F_are_times : Fun K "are_times" "are_times" s_are_times t.f_are_times t.d_are_times
 b_are_times : Binds K t.d_are_times ["low", "high"] []
 m_are_times : mg "are_times" = some (.ref t.f_are_times)
 F_is_pattern : Fun K "is_pattern" "is_pattern" s_is_pattern t.f_is_pattern t.d_is_pattern
 b_is_pattern : Binds K t.d_is_pattern ["thing"] []
 m_is_pattern : mg "is_pattern" = some (.ref t.f_is_pattern)
 F_is_spot : Fun K "is_spot" "is_spot" s_is_spot t.f_is_spot t.d_is_spot
 b_is_spot : Binds K t.d_is_spot ["thing"] []
 m_is_spot : mg "is_spot" = some (.ref t.f_is_spot)
 F_is_bow : Fun K "is_bow" "is_bow" s_is_bow t.f_is_bow t.d_is_bow
 b_is_bow : Binds K t.d_is_bow ["thing", "many"] []
 m_is_bow : mg "is_bow" = some (.ref t.f_is_bow)
 F_is_pair : Fun K "is_pair" "is_pair" s_is_pair t.f_is_pair t.d_is_pair
 b_is_pair : Binds K t.d_is_pair ["thing", "many"] []
 m_is_pair : mg "is_pair" = some (.ref t.f_is_pair)
 F_is_spot_number : Fun K "is_spot_number" "is_spot_number" s_is_spot_number t.f_is_spot_number t.d_is_spot_number
 b_is_spot_number : Binds K t.d_is_spot_number ["thing", "many"] []
 m_is_spot_number : mg "is_spot_number" = some (.ref t.f_is_spot_number)
 F__law_box : Fun K "_law_box" "_law_box" s__law_box t.f__law_box t.d__law_box
 b__law_box : Binds K t.d__law_box ["_law_script", "_law_k"] []
 m__law_box : mg "_law_box" = some (.ref t.f__law_box)
 F__law_take : Fun K "_law_take" "_law_take" s__law_take t.f__law_take t.d__law_take
 b__law_take : Binds K t.d__law_take ["_law_box_here", "_law_many"] []
 m__law_take : mg "_law_take" = some (.ref t.f__law_take)
 F__law_value : Fun K "_law_value" "_law_value" s__law_value t.f__law_value t.d__law_value
 b__law_value : Binds K t.d__law_value ["_law_box_here"] []
 m__law_value : mg "_law_value" = some (.ref t.f__law_value)
 F__law_test : Fun K "_law_test" "_law_test" s__law_test t.f__law_test t.d__law_test
 b__law_test : Binds K t.d__law_test ["_law_box_here", "_law_deep"] []
 m__law_test : mg "_law_test" = some (.ref t.f__law_test)
 F__law_way : Fun K "_law_way" "_law_way" s__law_way t.f__law_way t.d__law_way
 b__law_way : Binds K t.d__law_way ["_law_box_here", "_law_deep"] []
 m__law_way : mg "_law_way" = some (.ref t.f__law_way)
 F__law_bows : Fun K "_law_bows" "_law_bows" s__law_bows t.f__law_bows t.d__law_bows
 b__law_bows : Binds K t.d__law_bows ["_law_box_here", "_law_many", "_law_deep"] []
 m__law_bows : mg "_law_bows" = some (.ref t.f__law_bows)
 F__law_pairs : Fun K "_law_pairs" "_law_pairs" s__law_pairs t.f__law_pairs t.d__law_pairs
 b__law_pairs : Binds K t.d__law_pairs ["_law_box_here", "_law_many"] []
 m__law_pairs : mg "_law_pairs" = some (.ref t.f__law_pairs)
 F__law_spots : Fun K "_law_spots" "_law_spots" s__law_spots t.f__law_spots t.d__law_spots
 b__law_spots : Binds K t.d__law_spots ["_law_box_here", "_law_many"] []
 m__law_spots : mg "_law_spots" = some (.ref t.f__law_spots)
 F__law_number : Fun K "_law_number" "_law_number" s__law_number t.f__law_number t.d__law_number
 b__law_number : Binds K t.d__law_number ["_law_thing"] []
 m__law_number : mg "_law_number" = some (.ref t.f__law_number)
 F__law_name : Fun K "_law_name" "_law_name" s__law_name t.f__law_name t.d__law_name
 b__law_name : Binds K t.d__law_name ["_law_thing"] []
 m__law_name : mg "_law_name" = some (.ref t.f__law_name)
 F__law_worded : Fun K "_law_worded" "_law_worded" s__law_worded t.f__law_worded t.d__law_worded
 b__law_worded : Binds K t.d__law_worded ["_law_thing", "_law_lengths"] []
 m__law_worded : mg "_law_worded" = some (.ref t.f__law_worded)
 F__law_right_test : Fun K "_law_right_test" "_law_right_test" s__law_right_test t.f__law_right_test t.d__law_right_test
 b__law_right_test : Binds K t.d__law_right_test ["_law_thing"] []
 m__law_right_test : mg "_law_right_test" = some (.ref t.f__law_right_test)
 F__law_right_way : Fun K "_law_right_way" "_law_right_way" s__law_right_way t.f__law_right_way t.d__law_right_way
 b__law_right_way : Binds K t.d__law_right_way ["_law_thing"] []
 m__law_right_way : mg "_law_right_way" = some (.ref t.f__law_right_way)
 F__law_right_bow : Fun K "_law_right_bow" "_law_right_bow" s__law_right_bow t.f__law_right_bow t.d__law_right_bow
 b__law_right_bow : Binds K t.d__law_right_bow ["_law_thing", "_law_many"] []
 m__law_right_bow : mg "_law_right_bow" = some (.ref t.f__law_right_bow)
 F__law_right_pair : Fun K "_law_right_pair" "_law_right_pair" s__law_right_pair t.f__law_right_pair t.d__law_right_pair
 b__law_right_pair : Binds K t.d__law_right_pair ["_law_thing", "_law_many"] []
 m__law_right_pair : mg "_law_right_pair" = some (.ref t.f__law_right_pair)
 F__law_due : Fun K "_law_due" "_law_due" s__law_due t.f__law_due t.d__law_due
 b__law_due : Binds K t.d__law_due ["_law_thing"] []
 m__law_due : mg "_law_due" = some (.ref t.f__law_due)
 F__law_odd : Fun K "_law_odd" "_law_odd" s__law_odd t.f__law_odd t.d__law_odd
 b__law_odd : Binds K t.d__law_odd ["_law_box_here", "_law_thing"] []
 m__law_odd : mg "_law_odd" = some (.ref t.f__law_odd)
 F__law_spoilt : Fun K "_law_spoilt" "_law_spoilt" s__law_spoilt t.f__law_spoilt t.d__law_spoilt
 b__law_spoilt : Binds K t.d__law_spoilt ["_law_box_here", "_law_thing"] []
 m__law_spoilt : mg "_law_spoilt" = some (.ref t.f__law_spoilt)
 F__law_folded : Fun K "_law_folded" "_law_folded" s__law_folded t.f__law_folded t.d__law_folded
 b__law_folded : Binds K t.d__law_folded ["_law_script", "_law_many"] []
 m__law_folded : mg "_law_folded" = some (.ref t.f__law_folded)
 F_law : Fun K "law" "law" s_law t.f_law t.d_law
 b_law : Binds K t.d_law ["_law_script"] []
 m_law : mg "law" = some (.ref t.f_law)
 z_abs : mg "abs" = none
 z_all : mg "all" = none
 z_bool : mg "bool" = none
 z_enumerate : mg "enumerate" = none
 z_int : mg "int" = none
 z_isinstance : mg "isinstance" = none
 z_len : mg "len" = none
 z_list : mg "list" = none
 z_max : mg "max" = none
 z_range : mg "range" = none
 z_str : mg "str" = none
 z_tuple : mg "tuple" = none
 c_LONGEST_NAME : mg "LONGEST_NAME" = some t.u_LONGEST_NAME
 r_LONGEST_NAME : ConstM K k_LONGEST_NAME t.u_LONGEST_NAME
 c_MOST_TIMES : mg "MOST_TIMES" = some t.u_MOST_TIMES
 r_MOST_TIMES : ConstM K k_MOST_TIMES t.u_MOST_TIMES
 c_BOW_SORTS : mg "BOW_SORTS" = some t.u_BOW_SORTS
 r_BOW_SORTS : ConstM K k_BOW_SORTS t.u_BOW_SORTS
noncomputable def b_is_name : FS :=
 (sSeq (sIf (tOrM (tNotM (tV (mCB bInst (mCons (mVar 0) (mCons (mC (.ty "str")) mNil))))) (tNotM (tV (mChain opLe opLe (mC (.int 1)) (mCB bLen (mCons (mVar 0) mNil)) (mC k_LONGEST_NAME))))) (sRet (mC (.bl false))) sNext)
 (sRet (mCB bAll (mCons (mComp [none] (iS (mVar 0)) (gNm 0) tTrueM (mChain opLe opLe (mC (.str "a")) (mVar 0) (mC (.str "z")))) mNil))))
noncomputable def m_is_name : FF := mFun 1 0 b_is_name
noncomputable def b_is_number : FS :=
 (sRet (mAnd (mCB bInst (mCons (mVar 0) (mCons (mC (.ty "int")) mNil))) (mNot (mCB bInst (mCons (mVar 0) (mCons (mC (.ty "bool")) mNil))))))
noncomputable def m_is_number : FF := mFun 1 0 b_is_number
noncomputable def b_is_value : FS :=
 (sRet (mOr (mCall m_is_number (mCons (mVar 0) mNil)) (mCB bInst (mCons (mVar 0) (mCons (mC (.ty "str")) mNil)))))
noncomputable def m_is_value : FF := mFun 1 0 b_is_value
noncomputable def b_is_test (rec : FF) : FS :=
 (sSeq (sIf (tOrM (tNotM (tV (mCB bInst (mCons (mVar 0) (mCons (mC (.ty "tuple")) mNil))))) (tV (mOp opEq (mCB bLen (mCons (mVar 0) mNil)) (mC (.int 0))))) (sRet (mC (.bl false))) sNext)
 (sSeq (sAsg (mOp ixM (mVar 0) (mC (.int 0))) (gNm 1))
 (sSeq (sAsg (mSl slM (mVar 0) (oSome (mC (.int 1))) oNo) (gNm 2))
 (sSeq (sIf (tV (mOp opEq (mVar 1) (mC (.str "any")))) (sRet (mOp opEq (mCB bLen (mCons (mVar 2) mNil)) (mC (.int 0)))) sNext)
 (sSeq (sIf (tV (mOp opEq (mVar 1) (mC (.str "has")))) (sRet (mAnd (mOp opEq (mCB bLen (mCons (mVar 2) mNil)) (mC (.int 1))) (mCall m_is_name (mCons (mOp ixM (mVar 2) (mC (.int 0))) mNil)))) sNext)
 (sSeq (sIf (tV (mOp opIn (mVar 1) (mTup (mCons (mC (.str "is")) (mCons (mC (.str "under")) (mCons (mC (.str "over")) mNil)))))) (sRet (mAnd (mOp opEq (mCB bLen (mCons (mVar 2) mNil)) (mC (.int 2))) (mAnd (mCall m_is_name (mCons (mOp ixM (mVar 2) (mC (.int 0))) mNil)) (mCall m_is_value (mCons (mOp ixM (mVar 2) (mC (.int 1))) mNil))))) sNext)
 (sSeq (sIf (tV (mOp opIn (mVar 1) (mTup (mCons (mC (.str "both")) (mCons (mC (.str "either")) mNil))))) (sRet (mAnd (mOp opEq (mCB bLen (mCons (mVar 2) mNil)) (mC (.int 2))) (mAnd (mCall rec (mCons (mOp ixM (mVar 2) (mC (.int 0))) mNil)) (mCall rec (mCons (mOp ixM (mVar 2) (mC (.int 1))) mNil))))) sNext)
 (sRet (mAnd (mOp opEq (mVar 1) (mC (.str "not"))) (mAnd (mOp opEq (mCB bLen (mCons (mVar 2) mNil)) (mC (.int 1))) (mCall rec (mCons (mOp ixM (mVar 2) (mC (.int 0))) mNil))))))))))))
noncomputable def m_is_test : Nat → FF
 | 0 => fun _ _ => none
 | n + 1 => mFun 1 2 (b_is_test (m_is_test n))
noncomputable def b_are_times : FS :=
 (sRet (mAnd (mCall m_is_number (mCons (mVar 0) mNil)) (mAnd (mCall m_is_number (mCons (mVar 1) mNil)) (mChain3 opLe opLe opLe (mC (.int 0)) (mVar 0) (mVar 1) (mC k_MOST_TIMES)))))
noncomputable def m_are_times : FF := mFun 2 0 b_are_times
noncomputable def b_is_way (rec : FF) : FS :=
 (sSeq (sIf (tOrM (tNotM (tV (mCB bInst (mCons (mVar 0) (mCons (mC (.ty "tuple")) mNil))))) (tV (mOp opEq (mCB bLen (mCons (mVar 0) mNil)) (mC (.int 0))))) (sRet (mC (.bl false))) sNext)
 (sSeq (sAsg (mOp ixM (mVar 0) (mC (.int 0))) (gNm 1))
 (sSeq (sAsg (mSl slM (mVar 0) (oSome (mC (.int 1))) oNo) (gNm 2))
 (sSeq (sIf (tV (mOp opEq (mVar 1) (mC (.str "step")))) (sRet (mAnd (mOp opEq (mCB bLen (mCons (mVar 2) mNil)) (mC (.int 2))) (mAnd (mOr (mOp opIs (mOp ixM (mVar 2) (mC (.int 0))) (mC .non)) (mCall m_is_name (mCons (mOp ixM (mVar 2) (mC (.int 0))) mNil))) (mOp opIn (mOp ixM (mVar 2) (mC (.int 1))) (mTup (mCons (mC (.str "forth")) (mCons (mC (.str "back")) (mCons (mC (.str "either")) mNil)))))))) sNext)
 (sSeq (sIf (tV (mOp opEq (mVar 1) (mC (.str "empty")))) (sRet (mOp opEq (mCB bLen (mCons (mVar 2) mNil)) (mC (.int 0)))) sNext)
 (sSeq (sIf (tV (mOp opIn (mVar 1) (mTup (mCons (mC (.str "then")) (mCons (mC (.str "or")) mNil))))) (sRet (mAnd (mOp opEq (mCB bLen (mCons (mVar 2) mNil)) (mC (.int 2))) (mAnd (mCall rec (mCons (mOp ixM (mVar 2) (mC (.int 0))) mNil)) (mCall rec (mCons (mOp ixM (mVar 2) (mC (.int 1))) mNil))))) sNext)
 (sSeq (sIf (tV (mOp opEq (mVar 1) (mC (.str "again")))) (sRet (mAnd (mOp opEq (mCB bLen (mCons (mVar 2) mNil)) (mC (.int 1))) (mCall rec (mCons (mOp ixM (mVar 2) (mC (.int 0))) mNil)))) sNext)
 (sRet (mAnd (mOp opEq (mVar 1) (mC (.str "many"))) (mAnd (mOp opEq (mCB bLen (mCons (mVar 2) mNil)) (mC (.int 3))) (mAnd (mCall m_are_times (mCons (mOp ixM (mVar 2) (mC (.int 1))) (mCons (mOp ixM (mVar 2) (mC (.int 2))) mNil))) (mCall rec (mCons (mOp ixM (mVar 2) (mC (.int 0))) mNil)))))))))))))
noncomputable def m_is_way : Nat → FF
 | 0 => fun _ _ => none
 | n + 1 => mFun 1 2 (b_is_way (m_is_way n))
noncomputable def b_is_spot_number : FS :=
 (sRet (mAnd (mCall m_is_number (mCons (mVar 0) mNil)) (mChain opLe opLt (mC (.int 0)) (mVar 0) (mVar 1))))
noncomputable def m_is_spot_number : FF := mFun 2 0 b_is_spot_number
noncomputable def b_is_bow : FS :=
 (sSeq (sIf (tOrM (tNotM (tV (mCB bInst (mCons (mVar 0) (mCons (mC (.ty "tuple")) mNil))))) (tV (mOp opNe (mCB bLen (mCons (mVar 0) mNil)) (mC (.int 4))))) (sRet (mC (.bl false))) sNext)
 (sSeq (sAsg (mVar 0) (gTp 4 (gsCons (gNm 2) (gsCons (gNm 3) (gsCons (gNm 4) (gsCons (gNm 5) gsNil))))))
 (sRet (mAnd (mCall m_is_spot_number (mCons (mVar 2) (mCons (mVar 1) mNil))) (mAnd (mCall m_is_spot_number (mCons (mVar 3) (mCons (mVar 1) mNil))) (mAnd (mOp opIn (mVar 4) (mC k_BOW_SORTS)) (mCall (m_is_way 8) (mCons (mVar 5) mNil))))))))
noncomputable def m_is_bow : FF := mFun 2 4 b_is_bow
noncomputable def b_is_pair : FS :=
 (sSeq (sIf (tOrM (tNotM (tV (mCB bInst (mCons (mVar 0) (mCons (mC (.ty "tuple")) mNil))))) (tV (mOp opEq (mCB bLen (mCons (mVar 0) mNil)) (mC (.int 0))))) (sRet (mC (.bl false))) sNext)
 (sSeq (sIf (tV (mOp opEq (mOp ixM (mVar 0) (mC (.int 0))) (mC (.str "unlike")))) (sRet (mAnd (mOp opEq (mCB bLen (mCons (mVar 0) mNil)) (mC (.int 3))) (mAnd (mCall m_is_spot_number (mCons (mOp ixM (mVar 0) (mC (.int 1))) (mCons (mVar 1) mNil))) (mCall m_is_spot_number (mCons (mOp ixM (mVar 0) (mC (.int 2))) (mCons (mVar 1) mNil)))))) sNext)
 (sSeq (sIf (tOrM (tV (mOp opNotIn (mOp ixM (mVar 0) (mC (.int 0))) (mTup (mCons (mC (.str "same")) (mCons (mC (.str "under")) mNil))))) (tV (mOp opNe (mCB bLen (mCons (mVar 0) mNil)) (mC (.int 5))))) (sRet (mC (.bl false))) sNext)
 (sSeq (sAsg (mVar 0) (gTp 5 (gsCons (gNm 2) (gsCons (gNm 3) (gsCons (gNm 4) (gsCons (gNm 5) (gsCons (gNm 6) gsNil)))))))
 (sRet (mAnd (mCall m_is_spot_number (mCons (mVar 3) (mCons (mVar 1) mNil))) (mAnd (mCall m_is_name (mCons (mVar 4) mNil)) (mAnd (mCall m_is_spot_number (mCons (mVar 5) (mCons (mVar 1) mNil))) (mCall m_is_name (mCons (mVar 6) mNil))))))))))
noncomputable def m_is_pair : FF := mFun 2 5 b_is_pair
noncomputable def b_is_spot : FS :=
 (sSeq (sIf (tOrM (tNotM (tV (mCB bInst (mCons (mVar 0) (mCons (mC (.ty "tuple")) mNil))))) (tV (mOp opNe (mCB bLen (mCons (mVar 0) mNil)) (mC (.int 2))))) (sRet (mC (.bl false))) sNext)
 (sRet (mAnd (mOr (mOp opIs (mOp ixM (mVar 0) (mC (.int 0))) (mC .non)) (mCall m_is_name (mCons (mOp ixM (mVar 0) (mC (.int 0))) mNil))) (mCall (m_is_test 8) (mCons (mOp ixM (mVar 0) (mC (.int 1))) mNil)))))
noncomputable def m_is_spot : FF := mFun 1 0 b_is_spot
noncomputable def b_is_pattern : FS :=
 (sSeq (sIf (tOrM (tNotM (tV (mCB bInst (mCons (mVar 0) (mCons (mC (.ty "tuple")) mNil))))) (tV (mOp opNe (mCB bLen (mCons (mVar 0) mNil)) (mC (.int 3))))) (sRet (mC (.bl false))) sNext)
 (sSeq (sAsg (mVar 0) (gTp 3 (gsCons (gNm 1) (gsCons (gNm 2) (gsCons (gNm 3) gsNil)))))
 (sSeq (sIf (tOrM (tNotM (tV (mCB bInst (mCons (mVar 1) (mCons (mC (.ty "tuple")) mNil))))) (tOrM (tNotM (tV (mCB bInst (mCons (mVar 2) (mCons (mC (.ty "tuple")) mNil))))) (tNotM (tV (mCB bInst (mCons (mVar 3) (mCons (mC (.ty "tuple")) mNil))))))) (sRet (mC (.bl false))) sNext)
 (sSeq (sIf (tOrM (tV (mOp opEq (mCB bLen (mCons (mVar 1) mNil)) (mC (.int 0)))) (tNotM (tV (mCB bAll (mCons (mComp [none] (iT (mVar 1)) (gNm 0) tTrueM (mCall m_is_spot (mCons (mVar 0) mNil))) mNil))))) (sRet (mC (.bl false))) sNext)
 (sRet (mAnd (mCB bAll (mCons (mComp [none, some 1] (iT (mVar 2)) (gNm 0) tTrueM (mCall m_is_bow (mCons (mVar 0) (mCons (mCB bLen (mCons (mVar 1) mNil)) mNil)))) mNil)) (mCB bAll (mCons (mComp [none, some 1] (iT (mVar 3)) (gNm 0) tTrueM (mCall m_is_pair (mCons (mVar 0) (mCons (mCB bLen (mCons (mVar 1) mNil)) mNil)))) mNil))))))))
noncomputable def m_is_pattern : FF := mFun 1 3 b_is_pattern
noncomputable def b__law_box : FS :=
 (sSeq (sAsg (mC (.int 0)) (gNm 2))
 (sSeq (sIf (tV (mOp opLt (mVar 1) (mCB bLen (mCons (mVar 0) mNil)))) (sAsg (mOp ixM (mVar 0) (mVar 1)) (gNm 2)) sNext)
 (sRet (mLstH (mCons (mOp opMul (mCB bAbs (mCons (mVar 2) mNil)) (mCB bInt (mCons (mOp opGe (mCB bAbs (mCons (mVar 2) mNil)) (mOp opPow (mC (.int 10)) (mC (.int 18)))) mNil))) (mCons (mOp opMod (mVar 2) (mC (.int 2305843009213693951))) (mCons (mOp opMul (mC (.int 7)) (mVar 1)) mNil)))))))
noncomputable def m__law_box : FF := mFun 2 1 b__law_box
noncomputable def b__law_take : FS :=
 (sSeq (sIf (tV (mOp opGt (mOp ixM (mVar 0) (mC (.int 0))) (mC (.int 0)))) (sSeq (sAsg (mOp opMod (mOp ixM (mVar 0) (mC (.int 0))) (mVar 1)) (gNm 2))
 (sSeq (sAsg (mOp opDiv (mOp ixM (mVar 0) (mC (.int 0))) (mVar 1)) (gSubM (mVar 0) (mC (.int 0))))
 (sRet (mVar 2)))) sNext)
 (sSeq (sAsg (mOp opAdd (mOp ixM (mVar 0) (mC (.int 2))) (mC (.int 1))) (gSubM (mVar 0) (mC (.int 2))))
 (sSeq (sAsg (mOp opMod (mOp opMul (mOp opAdd (mOp ixM (mVar 0) (mC (.int 1))) (mC (.int 3))) (mOp opAdd (mC (.int 48271)) (mOp opMul (mOp ixM (mVar 0) (mC (.int 2))) (mOp ixM (mVar 0) (mC (.int 2)))))) (mC (.int 2305843009213693921))) (gNm 3))
 (sSeq (sAsg (mOp opMod (mOp opMul (mVar 3) (mOp opAdd (mOp opAdd (mOp opMod (mVar 3) (mC (.int 1000003))) (mOp opMul (mOp ixM (mVar 0) (mC (.int 2))) (mC (.int 69621)))) (mC (.int 11)))) (mC (.int 2305843009213693907))) (gNm 3))
 (sRet (mOp opMod (mOp opAdd (mOp opDiv (mOp opMul (mVar 3) (mVar 3)) (mC (.int 97))) (mOp opDiv (mVar 3) (mC (.int 31)))) (mVar 1)))))))
noncomputable def m__law_take : FF := mFun 2 2 b__law_take
noncomputable def b__law_value : FS :=
 (sSeq (sAsg (mOp ixM (mLst (mCons (mOp opSub (mOp opPow (mC (.int 10)) (mC (.int 12))) (mC (.int 1))) (mCons (mOp opSub (mC (.int 1)) (mOp opPow (mC (.int 10)) (mC (.int 12)))) (mCons (mC (.int 100)) (mCons (mC (.int 99)) mNil))))) (mCall m__law_take (mCons (mVar 0) (mCons (mC (.int 4)) mNil)))) (gNm 1))
 (sSeq (sAsg (mLst (mCons (mCall m__law_take (mCons (mVar 0) (mCons (mC (.int 4)) mNil))) (mCons (mCall m__law_take (mCons (mVar 0) (mCons (mC (.int 4)) mNil))) (mCons (mOp opSub (mCall m__law_take (mCons (mVar 0) (mCons (mC (.int 2001)) mNil))) (mC (.int 1000))) (mCons (mVar 1) (mCons (mC (.str "")) (mCons (mC (.str "b")) (mCons (mC (.str "aa")) (mCons (mC (.str "B")) (mCons (mC (.str "12")) mNil)))))))))) (gNm 2))
 (sRet (mOp ixM (mVar 2) (mCall m__law_take (mCons (mVar 0) (mCons (mC (.int 9)) mNil)))))))
noncomputable def m__law_value : FF := mFun 1 2 b__law_value
noncomputable def b__law_test (rec : FF) : FS :=
 (sSeq (sAsg (mCall m__law_take (mCons (mVar 0) (mCons (mC (.int 8)) mNil))) (gNm 2))
 (sSeq (sAsg (mOp ixM (mLst (mCons (mC (.str "b")) (mCons (mC (.str "age")) (mCons (mC (.str "zebra")) (mCons (mC (.str "no")) mNil))))) (mCall m__law_take (mCons (mVar 0) (mCons (mC (.int 4)) mNil)))) (gNm 3))
 (sSeq (sIf (tAndM (tV (mOp opGt (mVar 1) (mC (.int 0)))) (tV (mOp opGt (mVar 2) (mC (.int 4))))) (sSeq (sPar 4 5 (mCons (mCall rec (mCons (mVar 0) (mCons (mOp opSub (mVar 1) (mC (.int 1))) mNil))) (mCons (mCall rec (mCons (mVar 0) (mCons (mOp opSub (mVar 1) (mC (.int 1))) mNil))) mNil)))
 (sRet (mOp ixM (mLst (mCons (mTup (mCons (mC (.str "both")) (mCons (mVar 4) (mCons (mVar 5) mNil)))) (mCons (mTup (mCons (mC (.str "either")) (mCons (mVar 4) (mCons (mVar 5) mNil)))) (mCons (mTup (mCons (mC (.str "not")) (mCons (mVar 4) mNil))) mNil)))) (mOp opSub (mVar 2) (mC (.int 5)))))) sNext)
 (sSeq (sAsg (mLst (mCons (mTup (mCons (mC (.str "has")) (mCons (mVar 3) mNil))) (mCons (mTup (mCons (mC (.str "is")) (mCons (mVar 3) (mCons (mCall m__law_value (mCons (mVar 0) mNil)) mNil)))) (mCons (mTup (mCons (mC (.str "under")) (mCons (mVar 3) (mCons (mCall m__law_value (mCons (mVar 0) mNil)) mNil)))) mNil)))) (gNm 6))
 (sRet (mOp ixM (mOp opAdd (mOp opAdd (mVar 6) (mLst (mCons (mTup (mCons (mC (.str "over")) (mCons (mVar 3) (mCons (mCall m__law_value (mCons (mVar 0) mNil)) mNil)))) mNil))) (mOp opMul (mLst (mCons (mTup (mCons (mC (.str "any")) mNil)) mNil)) (mC (.int 4)))) (mVar 2)))))))
noncomputable def m__law_test : Nat → FF
 | 0 => fun _ _ => none
 | n + 1 => mFun 2 5 (b__law_test (m__law_test n))
noncomputable def b__law_way (rec : FF) : FS :=
 (sSeq (sAsg (mCall m__law_take (mCons (mVar 0) (mCons (mC (.int 9)) mNil))) (gNm 2))
 (sSeq (sIf (tOrM (tV (mOp opLe (mVar 1) (mC (.int 0)))) (tV (mOp opLt (mVar 2) (mC (.int 3))))) (sSeq (sAsg (mOp ixM (mLst (mCons (mC (.str "forth")) (mCons (mC (.str "back")) (mCons (mC (.str "either")) mNil)))) (mCall m__law_take (mCons (mVar 0) (mCons (mC (.int 3)) mNil)))) (gNm 3))
 (sRet (mTup (mCons (mC (.str "step")) (mCons (mOp ixM (mLst (mCons (mC (.str "knows")) (mCons (mC (.str "a")) (mCons (mC (.str "likes")) (mCons (mC .non) mNil))))) (mCall m__law_take (mCons (mVar 0) (mCons (mC (.int 4)) mNil)))) (mCons (mVar 3) mNil)))))) sNext)
 (sSeq (sIf (tV (mOp opLt (mVar 2) (mC (.int 5)))) (sRet (mTup (mCons (mC (.str "again")) (mCons (mCall rec (mCons (mVar 0) (mCons (mOp opSub (mVar 1) (mC (.int 2))) mNil))) mNil)))) sNext)
 (sSeq (sIf (tV (mOp opEq (mVar 2) (mC (.int 5)))) (sSeq (sAsg (mCall m__law_take (mCons (mVar 0) (mCons (mC (.int 3)) mNil))) (gNm 4))
 (sRet (mTup (mCons (mC (.str "many")) (mCons (mCall rec (mCons (mVar 0) (mCons (mOp opSub (mVar 1) (mC (.int 2))) mNil))) (mCons (mVar 4) (mCons (mOp opAdd (mVar 4) (mCall m__law_take (mCons (mVar 0) (mCons (mC (.int 2)) mNil)))) mNil))))))) sNext)
 (sSeq (sIf (tV (mOp opEq (mVar 2) (mC (.int 6)))) (sRet (mOp ixM (mLst (mCons (mTup (mCons (mC (.str "empty")) mNil)) (mCons (mTup (mCons (mC (.str "again")) (mCons (mCall rec (mCons (mVar 0) (mCons (mOp opSub (mVar 1) (mC (.int 1))) mNil))) mNil))) mNil))) (mCall m__law_take (mCons (mVar 0) (mCons (mC (.int 2)) mNil))))) sNext)
 (sRet (mTup (mCons (mOp ixM (mLst (mCons (mC (.str "then")) (mCons (mC (.str "or")) mNil))) (mOp opSub (mVar 2) (mC (.int 7)))) (mCons (mCall rec (mCons (mVar 0) (mCons (mOp opSub (mVar 1) (mC (.int 1))) mNil))) (mCons (mCall rec (mCons (mVar 0) (mCons (mOp opSub (mVar 1) (mC (.int 1))) mNil))) mNil))))))))))
noncomputable def m__law_way : Nat → FF
 | 0 => fun _ _ => none
 | n + 1 => mFun 2 3 (b__law_way (m__law_way n))
noncomputable def b__law_bows : FS :=
 (sSeq (sAsg (mLstH mNil) (gNm 3))
 (sSeq (sFor (iR1 (mCons (mOp ixM (mLst (mCons (mC (.int 1)) (mCons (mC (.int 1)) (mCons (mC (.int 2)) (mCons (mC (.int 3)) (mCons (mC (.int 1)) (mCons (mC (.int 2)) mNil))))))) (mCall m__law_take (mCons (mVar 0) (mCons (mC (.int 6)) mNil)))) mNil)) (gNm 4) (sSeq (sAsg (mOp ixM (mLst (mCons (mC (.str "all")) (mCons (mC (.str "short")) (mCons (mC (.str "plain")) (mCons (mC (.str "any")) (mCons (mC (.str "all")) mNil)))))) (mCall m__law_take (mCons (mVar 0) (mCons (mC (.int 5)) mNil)))) (gNm 5))
 (sDrop (mMt isL mAppend (mVar 3) (mCons (mTup (mCons (mCall m__law_take (mCons (mVar 0) (mCons (mVar 1) mNil))) (mCons (mCall m__law_take (mCons (mVar 0) (mCons (mVar 1) mNil))) (mCons (mVar 5) (mCons (mCall (m__law_way 8) (mCons (mVar 0) (mCons (mVar 2) mNil))) mNil))))) mNil)))))
 (sRet (mCB bTuple (mCons (mVar 3) mNil)))))
noncomputable def m__law_bows : FF := mSeal (mFun 3 3 b__law_bows)
noncomputable def b__law_pairs : FS :=
 (sSeq (sAsg (mLstH mNil) (gNm 2))
 (sSeq (sFor (iR1 (mCons (mOp ixM (mLst (mCons (mC (.int 0)) (mCons (mC (.int 0)) (mCons (mC (.int 0)) (mCons (mC (.int 1)) (mCons (mC (.int 2)) (mCons (mC (.int 5)) mNil))))))) (mCall m__law_take (mCons (mVar 0) (mCons (mC (.int 6)) mNil)))) mNil)) (gNm 3) (sSeq (sPar 4 5 (mCons (mCall m__law_take (mCons (mVar 0) (mCons (mVar 1) mNil))) (mCons (mCall m__law_take (mCons (mVar 0) (mCons (mVar 1) mNil))) mNil)))
 (sSeq (sAsg (mComp [none, some 0] (iR1 (mCons (mC (.int 2)) mNil)) (gNm 0) tTrueM (mOp ixM (mLst (mCons (mC (.str "b")) (mCons (mC (.str "age")) (mCons (mC (.str "zebra")) (mCons (mC (.str "b")) (mCons (mC (.str "age")) (mCons (mC (.str "no")) mNil))))))) (mCall m__law_take (mCons (mVar 1) (mCons (mC (.int 6)) mNil))))) (gNm 6))
 (sSeq (sAsg (mLst (mCons (mTup (mCons (mC (.str "unlike")) (mCons (mVar 4) (mCons (mVar 5) mNil)))) (mCons (mTup (mCons (mC (.str "same")) (mCons (mVar 4) (mCons (mOp ixM (mVar 6) (mC (.int 0))) (mCons (mVar 5) (mCons (mOp ixM (mVar 6) (mC (.int 1))) mNil)))))) (mCons (mTup (mCons (mC (.str "under")) (mCons (mVar 4) (mCons (mOp ixM (mVar 6) (mC (.int 0))) (mCons (mVar 5) (mCons (mOp ixM (mVar 6) (mC (.int 1))) mNil)))))) mNil)))) (gNm 7))
 (sDrop (mMt isL mAppend (mVar 2) (mCons (mOp ixM (mVar 7) (mCall m__law_take (mCons (mVar 0) (mCons (mC (.int 3)) mNil)))) mNil)))))))
 (sRet (mCB bTuple (mCons (mVar 2) mNil)))))
noncomputable def m__law_pairs : FF := mSeal (mFun 2 6 b__law_pairs)
noncomputable def b__law_spots : FS :=
 (sSeq (sAsg (mLstH mNil) (gNm 2))
 (sSeq (sAsg (mCall m__law_take (mCons (mVar 0) (mCons (mC (.int 3)) mNil))) (gNm 3))
 (sSeq (sFor (iR1 (mCons (mVar 1) mNil)) (gNm 4) (sSeq (sAsg (mOp ixM (mLst (mCons (mC .non) (mCons (mC .non) (mCons (mC (.str "person")) (mCons (mC (.str "b")) (mCons (mC (.str "town")) mNil)))))) (mCall m__law_take (mCons (mVar 0) (mCons (mC (.int 5)) mNil)))) (gNm 5))
 (sSeq (sAsg (mCall (m__law_test 4) (mCons (mVar 0) (mCons (mOp opSub (mC (.int 1)) (mCall m__law_take (mCons (mVar 0) (mCons (mC (.int 2)) mNil)))) mNil))) (gNm 6))
 (sSeq (sIf (tAndM (tV (mOp opGt (mVar 3) (mC (.int 0)))) (tV (mOp opGt (mCall m__law_take (mCons (mVar 0) (mCons (mC (.int 4)) mNil))) (mC (.int 0))))) (sAsg (mTup (mCons (mC .non) (mCons (mTup (mCons (mC (.str "any")) mNil)) mNil))) (gTp 2 (gsCons (gNm 5) (gsCons (gNm 6) gsNil)))) sNext)
 (sDrop (mMt isL mAppend (mVar 2) (mCons (mTup (mCons (mVar 5) (mCons (mVar 6) mNil))) mNil)))))))
 (sRet (mCB bTuple (mCons (mVar 2) mNil))))))
noncomputable def m__law_spots : FF := mSeal (mFun 2 5 b__law_spots)
noncomputable def b__law_number : FS :=
 (sRet (mAnd (mCB bInst (mCons (mVar 0) (mCons (mC (.ty "int")) mNil))) (mNot (mCB bInst (mCons (mVar 0) (mCons (mC (.ty "bool")) mNil))))))
noncomputable def m__law_number : FF := mFun 1 0 b__law_number
noncomputable def b__law_name : FS :=
 (sSeq (sIf (tOrM (tNotM (tV (mCB bInst (mCons (mVar 0) (mCons (mC (.ty "str")) mNil))))) (tOrM (tV (mOp opLt (mCB bLen (mCons (mVar 0) mNil)) (mC (.int 1)))) (tV (mOp opGt (mCB bLen (mCons (mVar 0) mNil)) (mC (.int 8)))))) (sRet (mC (.bl false))) sNext)
 (sRet (mCB bAll (mCons (mComp [none] (iS (mVar 0)) (gNm 0) tTrueM (mOp opIn (mVar 0) (mC (.str "abcdefghijklmnopqrstuvwxyz")))) mNil))))
noncomputable def m__law_name : FF := mFun 1 0 b__law_name
noncomputable def b__law_worded : FS :=
 (sSeq (sIf (tOrM (tNotM (tV (mCB bInst (mCons (mVar 0) (mCons (mC (.ty "tuple")) mNil))))) (tOrM (tV (mOp opEq (mVar 0) (mTup mNil))) (tNotM (tV (mCB bInst (mCons (mOp ixM (mVar 0) (mC (.int 0))) (mCons (mC (.ty "str")) mNil))))))) (sRet (mC (.bl false))) sNext)
 (sRet (mAnd (mOp opIn (mOp ixM (mVar 0) (mC (.int 0))) (mVar 1)) (mOp opEq (mCB bLen (mCons (mVar 0) mNil)) (mOp ixM (mVar 1) (mOp ixM (mVar 0) (mC (.int 0))))))))
noncomputable def m__law_worded : FF := mFun 2 0 b__law_worded
noncomputable def b__law_right_test (rec : FF) : FS :=
 (sSeq (sAsg (mDsp (mCons (mC (.str "any")) (mCons (mC (.int 1)) (mCons (mC (.str "has")) (mCons (mC (.int 2)) (mCons (mC (.str "is")) (mCons (mC (.int 3)) (mCons (mC (.str "under")) (mCons (mC (.int 3)) (mCons (mC (.str "over")) (mCons (mC (.int 3)) (mCons (mC (.str "both")) (mCons (mC (.int 3)) (mCons (mC (.str "either")) (mCons (mC (.int 3)) (mCons (mC (.str "not")) (mCons (mC (.int 2)) mNil))))))))))))))))) (gNm 1))
 (sSeq (sIf (tNotM (tV (mCall m__law_worded (mCons (mVar 0) (mCons (mVar 1) mNil))))) (sRet (mC (.bl false))) sNext)
 (sSeq (sIf (tV (mOp opIn (mOp ixM (mVar 0) (mC (.int 0))) (mTup (mCons (mC (.str "both")) (mCons (mC (.str "either")) (mCons (mC (.str "not")) mNil)))))) (sRet (mCB bAll (mCons (mComp [none] (iT (mSl slM (mVar 0) (oSome (mC (.int 1))) oNo)) (gNm 0) tTrueM (mCall rec (mCons (mVar 0) mNil))) mNil))) sNext)
 (sSeq (sFor (iT (mSl slM (mVar 0) (oSome (mC (.int 1))) (oSome (mC (.int 2))))) (gNm 2) (sIf (tNotM (tV (mCall m__law_name (mCons (mVar 2) mNil)))) (sRet (mC (.bl false))) sNext))
 (sRet (mCB bAll (mCons (mComp [none] (iT (mSl slM (mVar 0) (oSome (mC (.int 2))) oNo)) (gNm 0) tTrueM (mOr (mCall m__law_number (mCons (mVar 0) mNil)) (mCB bInst (mCons (mVar 0) (mCons (mC (.ty "str")) mNil))))) mNil)))))))
noncomputable def m__law_right_test : Nat → FF
 | 0 => fun _ _ => none
 | n + 1 => mFun 1 2 (b__law_right_test (m__law_right_test n))
noncomputable def b__law_right_way (rec : FF) : FS :=
 (sSeq (sIf (tNotM (tV (mCall m__law_worded (mCons (mVar 0) (mCons (mDsp (mCons (mC (.str "step")) (mCons (mC (.int 3)) (mCons (mC (.str "empty")) (mCons (mC (.int 1)) (mCons (mC (.str "then")) (mCons (mC (.int 3)) (mCons (mC (.str "or")) (mCons (mC (.int 3)) (mCons (mC (.str "again")) (mCons (mC (.int 2)) (mCons (mC (.str "many")) (mCons (mC (.int 4)) mNil))))))))))))) mNil))))) (sRet (mC (.bl false))) sNext)
 (sSeq (sIf (tV (mOp opEq (mOp ixM (mVar 0) (mC (.int 0))) (mC (.str "step")))) (sSeq (sIf (tAndM (tV (mOp opIsNot (mOp ixM (mVar 0) (mC (.int 1))) (mC .non))) (tNotM (tV (mCall m__law_name (mCons (mOp ixM (mVar 0) (mC (.int 1))) mNil))))) (sRet (mC (.bl false))) sNext)
 (sRet (mAnd (mCB bInst (mCons (mOp ixM (mVar 0) (mC (.int 2))) (mCons (mC (.ty "str")) mNil))) (mOp opIn (mOp ixM (mVar 0) (mC (.int 2))) (mTup (mCons (mC (.str "forth")) (mCons (mC (.str "back")) (mCons (mC (.str "either")) mNil)))))))) sNext)
 (sSeq (sIf (tV (mOp opEq (mOp ixM (mVar 0) (mC (.int 0))) (mC (.str "many")))) (sSeq (sIf (tOrM (tNotM (tV (mCall m__law_number (mCons (mOp ixM (mVar 0) (mC (.int 2))) mNil)))) (tOrM (tNotM (tV (mCall m__law_number (mCons (mOp ixM (mVar 0) (mC (.int 3))) mNil)))) (tNotM (tV (mChain3 opLe opLe opLe (mC (.int 0)) (mOp ixM (mVar 0) (mC (.int 2))) (mOp ixM (mVar 0) (mC (.int 3))) (mC (.int 6))))))) (sRet (mC (.bl false))) sNext)
 (sRet (mCall rec (mCons (mOp ixM (mVar 0) (mC (.int 1))) mNil)))) sNext)
 (sRet (mCB bAll (mCons (mComp [none] (iT (mSl slM (mVar 0) (oSome (mC (.int 1))) oNo)) (gNm 0) tTrueM (mCall rec (mCons (mVar 0) mNil))) mNil))))))
noncomputable def m__law_right_way : Nat → FF
 | 0 => fun _ _ => none
 | n + 1 => mFun 1 0 (b__law_right_way (m__law_right_way n))
noncomputable def b__law_right_bow : FS :=
 (sSeq (sIf (tOrM (tNotM (tV (mCB bInst (mCons (mVar 0) (mCons (mC (.ty "tuple")) mNil))))) (tV (mOp opNe (mCB bLen (mCons (mVar 0) mNil)) (mC (.int 4))))) (sRet (mC (.bl false))) sNext)
 (sSeq (sFor (iT (mSl slM (mVar 0) oNo (oSome (mC (.int 2))))) (gNm 2) (sIf (tOrM (tNotM (tV (mCall m__law_number (mCons (mVar 2) mNil)))) (tOrM (tV (mOp opLt (mVar 2) (mC (.int 0)))) (tV (mOp opGe (mVar 2) (mVar 1))))) (sRet (mC (.bl false))) sNext))
 (sRet (mAnd (mCB bInst (mCons (mOp ixM (mVar 0) (mC (.int 2))) (mCons (mC (.ty "str")) mNil))) (mAnd (mOp opIn (mOp ixM (mVar 0) (mC (.int 2))) (mTup (mCons (mC (.str "all")) (mCons (mC (.str "short")) (mCons (mC (.str "plain")) (mCons (mC (.str "any")) mNil)))))) (mCall (m__law_right_way 8) (mCons (mOp ixM (mVar 0) (mC (.int 3))) mNil)))))))
noncomputable def m__law_right_bow : FF := mFun 2 1 b__law_right_bow
noncomputable def b__law_right_pair : FS :=
 (sSeq (sIf (tNotM (tV (mCall m__law_worded (mCons (mVar 0) (mCons (mDsp (mCons (mC (.str "unlike")) (mCons (mC (.int 3)) (mCons (mC (.str "same")) (mCons (mC (.int 5)) (mCons (mC (.str "under")) (mCons (mC (.int 5)) mNil))))))) mNil))))) (sRet (mC (.bl false))) sNext)
 (sSeq (sPar 2 3 (mCons (mLst (mCons (mOp ixM (mVar 0) (mC (.int 1))) (mCons (mOp ixM (mVar 0) (mC (.int 2))) mNil))) (mCons (mLst mNil) mNil)))
 (sSeq (sIf (tV (mOp opNe (mOp ixM (mVar 0) (mC (.int 0))) (mC (.str "unlike")))) (sPar 2 3 (mCons (mLst (mCons (mOp ixM (mVar 0) (mC (.int 1))) (mCons (mOp ixM (mVar 0) (mC (.int 3))) mNil))) (mCons (mLst (mCons (mOp ixM (mVar 0) (mC (.int 2))) (mCons (mOp ixM (mVar 0) (mC (.int 4))) mNil))) mNil))) sNext)
 (sSeq (sFor (iL (mVar 2)) (gNm 4) (sIf (tOrM (tNotM (tV (mCall m__law_number (mCons (mVar 4) mNil)))) (tOrM (tV (mOp opLt (mVar 4) (mC (.int 0)))) (tV (mOp opGe (mVar 4) (mVar 1))))) (sRet (mC (.bl false))) sNext))
 (sRet (mCB bAll (mCons (mComp [none] (iL (mVar 3)) (gNm 0) tTrueM (mCall m__law_name (mCons (mVar 0) mNil))) mNil)))))))
noncomputable def m__law_right_pair : FF := mFun 2 3 b__law_right_pair
noncomputable def b__law_due : FS :=
 (sSeq (sIf (tOrM (tNotM (tV (mCB bInst (mCons (mVar 0) (mCons (mC (.ty "tuple")) mNil))))) (tV (mOp opNe (mCB bLen (mCons (mVar 0) mNil)) (mC (.int 3))))) (sRet (mC (.bl false))) sNext)
 (sSeq (sFor (iT (mVar 0)) (gNm 1) (sIf (tNotM (tV (mCB bInst (mCons (mVar 1) (mCons (mC (.ty "tuple")) mNil))))) (sRet (mC (.bl false))) sNext))
 (sSeq (sAsg (mVar 0) (gTp 3 (gsCons (gNm 2) (gsCons (gNm 3) (gsCons (gNm 4) gsNil)))))
 (sSeq (sFor (iT (mVar 2)) (gNm 5) (sSeq (sIf (tOrM (tNotM (tV (mCB bInst (mCons (mVar 5) (mCons (mC (.ty "tuple")) mNil))))) (tOrM (tV (mOp opNe (mCB bLen (mCons (mVar 5) mNil)) (mC (.int 2)))) (tNotM (tV (mCall (m__law_right_test 8) (mCons (mOp ixM (mVar 5) (mC (.int 1))) mNil)))))) (sRet (mC (.bl false))) sNext)
 (sIf (tAndM (tV (mOp opIsNot (mOp ixM (mVar 5) (mC (.int 0))) (mC .non))) (tNotM (tV (mCall m__law_name (mCons (mOp ixM (mVar 5) (mC (.int 0))) mNil))))) (sRet (mC (.bl false))) sNext)))
 (sSeq (sAsg (mOp opAdd (mComp [none, some 2] (iT (mVar 3)) (gNm 0) tTrueM (mCall m__law_right_bow (mCons (mVar 0) (mCons (mCB bLen (mCons (mVar 1) mNil)) mNil)))) (mComp [none, some 2] (iT (mVar 4)) (gNm 0) tTrueM (mCall m__law_right_pair (mCons (mVar 0) (mCons (mCB bLen (mCons (mVar 1) mNil)) mNil))))) (gNm 6))
 (sRet (mAnd (mOp opGt (mCB bLen (mCons (mVar 2) mNil)) (mC (.int 0))) (mCB bAll (mCons (mVar 6) mNil)))))))))
noncomputable def m__law_due : FF := mFun 1 6 b__law_due
noncomputable def b__law_odd : FS :=
 (sSeq (sAsg (mLst (mCons (mC (.bl true)) (mCons (mC .non) (mCons (mUn opNeg (mC (.int 1))) (mCons (mC (.int 9)) (mCons (mC (.str "knows")) (mCons (mC (.str "")) (mCons (mTup mNil) (mCons (mLst mNil) (mCons (mC (.str "Abc")) (mCons (mTup (mCons (mC (.str "step")) (mCons (mC (.str "a")) mNil))) (mCons (mC (.str "ninesigns")) (mCons (mTup (mCons (mC (.str "any")) (mCons (mC (.int 1)) mNil))) (mCons (mLst (mCons (mVar 1) mNil)) (mCons (mC (.int 2)) mNil))))))))))))))) (gNm 2))
 (sSeq (sAsg (mOp opAdd (mVar 2) (mLst (mCons (mTup (mCons (mC (.str "many")) (mCons (mTup (mCons (mC (.str "empty")) mNil)) (mCons (mC (.int 2)) (mCons (mC (.int 1)) mNil))))) (mCons (mTup (mCons (mC (.str "many")) (mCons (mTup (mCons (mC (.str "empty")) mNil)) (mCons (mC (.int 0)) (mCons (mC (.int 7)) mNil))))) (mCons (mTup (mCons (mC (.str "is")) (mCons (mC (.str "b")) (mCons (mC .non) mNil)))) (mCons (mTup (mCons (mC (.str "has")) (mCons (mC (.int 3)) mNil))) mNil)))))) (gNm 2))
 (sRet (mOp ixM (mVar 2) (mCall m__law_take (mCons (mVar 0) (mCons (mCB bLen (mCons (mVar 2) mNil)) mNil)))))))
noncomputable def m__law_odd : FF := mFun 2 1 b__law_odd
noncomputable def b__law_spoilt (rec : FF) : FS :=
 (sSeq (sIf (tOrM (tNotM (tV (mCB bInst (mCons (mVar 1) (mCons (mC (.ty "tuple")) mNil))))) (tOrM (tV (mOp opEq (mVar 1) (mTup mNil))) (tV (mOp opEq (mCall m__law_take (mCons (mVar 0) (mCons (mC (.int 4)) mNil))) (mC (.int 0)))))) (sRet (mCall m__law_odd (mCons (mVar 0) (mCons (mVar 1) mNil)))) sNext)
 (sSeq (sAsg (mCall m__law_take (mCons (mVar 0) (mCons (mCB bLen (mCons (mVar 1) mNil)) mNil))) (gNm 2))
 (sSeq (sAsg (mCall m__law_take (mCons (mVar 0) (mCons (mC (.int 8)) mNil))) (gNm 3))
 (sSeq (sIf (tV (mOp opEq (mVar 3) (mC (.int 0)))) (sRet (mCB bList (mCons (mVar 1) mNil))) sNext)
 (sSeq (sIf (tV (mOp opEq (mVar 3) (mC (.int 1)))) (sRet (mOp opAdd (mSl slM (mVar 1) oNo (oSome (mVar 2))) (mSl slM (mVar 1) (oSome (mOp opAdd (mVar 2) (mC (.int 1)))) oNo))) sNext)
 (sSeq (sIf (tV (mOp opEq (mVar 3) (mC (.int 2)))) (sRet (mOp opAdd (mVar 1) (mTup (mCons (mOp ixM (mVar 1) (mVar 2)) mNil)))) sNext)
 (sRet (mOp opAdd (mOp opAdd (mSl slM (mVar 1) oNo (oSome (mVar 2))) (mTup (mCons (mCall rec (mCons (mVar 0) (mCons (mOp ixM (mVar 1) (mVar 2)) mNil))) mNil))) (mSl slM (mVar 1) (oSome (mOp opAdd (mVar 2) (mC (.int 1)))) oNo)))))))))
noncomputable def m__law_spoilt : Nat → FF
 | 0 => fun _ _ => none
 | n + 1 => mFun 2 2 (b__law_spoilt (m__law_spoilt n))
noncomputable def b__law_folded : FS :=
 (sSeq (sAsg (mListH (mCons (mSl slM (mVar 0) oNo (oSome (mVar 1))) mNil)) (gNm 2))
 (sSeq (sFor (iEnumerate (mCons (mSl slM (mVar 0) (oSome (mVar 1)) (oSome (mC (.int 63)))) mNil)) (gTp 2 (gsCons (gNm 3) (gsCons (gNm 4) gsNil))) (sAsg (mOp opAdd (mOp ixM (mVar 2) (mOp opMod (mVar 3) (mVar 1))) (mOp opMul (mVar 4) (mOp opAdd (mVar 3) (mC (.int 2))))) (gSubM (mVar 2) (mOp opMod (mVar 3) (mVar 1)))))
 (sRet (mVar 2))))
noncomputable def m__law_folded : FF := mSeal (mFun 2 3 b__law_folded)
noncomputable def b_law : FS :=
 (sSeq (sAsg (mCall m__law_folded (mCons (mVar 0) (mCons (mC (.int 12)) mNil))) (gNm 1))
 (sSeq (sFor (iR1 (mCons (mCB bMax (mCons (mC (.int 1)) (mCons (mCB bLen (mCons (mVar 1) mNil)) mNil))) mNil)) (gNm 2) (sSeq (sAsg (mCall m__law_box (mCons (mVar 1) (mCons (mVar 2) mNil))) (gNm 3))
 (sSeq (sAsg (mOp opAdd (mC (.int 1)) (mCall m__law_take (mCons (mVar 3) (mCons (mOp ixM (mLst (mCons (mC (.int 3)) (mCons (mC (.int 7)) mNil))) (mCB bInt (mCons (mOp opEq (mCall m__law_take (mCons (mVar 3) (mCons (mC (.int 8)) mNil))) (mC (.int 0))) mNil))) mNil)))) (gNm 4))
 (sSeq (sAsg (mTup (mCons (mCall m__law_spots (mCons (mVar 3) (mCons (mVar 4) mNil))) (mCons (mCall m__law_bows (mCons (mVar 3) (mCons (mVar 4) (mCons (mC (.int 2)) mNil)))) (mCons (mCall m__law_pairs (mCons (mVar 3) (mCons (mVar 4) mNil))) mNil)))) (gNm 5))
 (sSeq (sIf (tV (mOp opIsNot (mCall m_is_pattern (mCons (mVar 5) mNil)) (mC (.bl true)))) (sRet (mC (.bl false))) sNext)
 (sSeq (sIf (tV (mOp opGt (mCall m__law_take (mCons (mVar 3) (mCons (mC (.int 4)) mNil))) (mC (.int 0)))) (sAsg (mCall (m__law_spoilt 12) (mCons (mVar 3) (mCons (mVar 5) mNil))) (gNm 5)) sNext)
 (sSeq (sAsg (mCall m_is_pattern (mCons (mVar 5) mNil)) (gNm 6))
 (sIf (tOrM (tNotM (tV (mCB bInst (mCons (mVar 6) (mCons (mC (.ty "bool")) mNil))))) (tV (mOp opNe (mVar 6) (mCall m__law_due (mCons (mVar 5) mNil))))) (sRet (mC (.bl false))) sNext))))))))
 (sRet (mAnd (mOp opIs (mCall m_is_pattern (mCons (mTup (mCons (mTup mNil) (mCons (mTup mNil) (mCons (mTup mNil) mNil)))) mNil)) (mC (.bl false))) (mOp opIs (mCall m_is_pattern (mCons (mC (.str "")) mNil)) (mC (.bl false)))))))
noncomputable def m_law : FF := mFun 1 6 b_law
end K39
set_option Elab.async false
set_option linter.all false
set_option maxRecDepth 100000
set_option maxHeartbeats 8000000
namespace K39
open PySem L2
local macro_rules | `(tactic| apply $e:term) => `(tactic| with_reducible refine' $e)
local macro_rules | `(tactic| walk_at "late") => `(tactic| first | rfl | exact True.intro | exact nomark _ | exact PassesOwn.never | exact Room.mono (by assumption) (by omega) | exact fun _ _ => rfl | (intro _; rfl) | with_unfolding_all rfl | exact Or.inl rfl | decide | simp)
section
variable {P : Program} {w : World} {K : PySem.W.Frag} {mg : Str → Option Value} {base : Heap} {t : Adr}
theorem ok_is_name (T : Txt K mg t) : FnOk P w K mg base CX0 1 t.f_is_name t.d_is_name ["thing"] (spM K m_is_name) := by
 refine T.F_is_name.okM (k := 0) sc_is_name rfl fun cdv A outer s H E hr => ?_
 unfold b_is_name
 conv => arg 2; whnf
 apply mss_cons ?d1 ?d2
 case' d1 => apply ms_if ?d3 ?d4 mss_nil
 case' d3 => apply PW.pt ?_
 case' d3 => apply mw_or ?d6 ?d7
 case' d6 => apply mt_not ?_
 case' d6 => apply mt_val ?d9 ?_
 case' d9 => apply me_CB call_instM fm_inst ?d10 ?d11 PyProof.Rows.boot_isinstance ?d12 ?_ ?_
 case d10 => exact q5
 case d11 => exact T.z_isinstance
 case' d12 => apply ma_2 ?d13 ?d14 ?_ ?_
 case d13 => exact (me_var (pvk 0 q0))
 case' d14 => apply me_C ?d15 ?_
 case' d15 => apply pe_bltnk (v := .ty "str") ?d16 ?d17 ?_ ?_
 case d16 => exact q4
 case d17 => exact T.z_str
 case' d7 => apply mw_or1 ?_
 case' d7 => apply mt_not ?_
 case' d7 => apply mt_chain op_leA fm_le op_leA fm_le me_int ?d20 ?d21 ?_
 case' d20 => apply me_CB call_lenM fm_len ?d22 ?d23 PySem.boot_len ?d24 ?_ ?_
 case d22 => exact q2
 case d23 => exact T.z_len
 case' d24 => apply ma_1 ?d25 ?_
 case d25 => exact (me_var (pvk 0 q0))
 case' d21 => apply me_glob ?d26 ?d27 ?d28
 case d26 => exact q3
 case d27 => exact T.c_LONGEST_NAME
 case d28 => exact T.r_LONGEST_NAME
 case' d4 => apply mss_one ?_
 case' d4 => apply ms_ret me_bl
 case' d2 => apply mss_one ?_
 case' d2 => apply ms_ret ?_
 case' d2 => apply me_CB ?d32 fm_all ?d33 ?d34 PyProof.Rows.boot_all ?d35 ?_ ?_
 case d32 => exact (call_all rfl)
 case d33 => exact q1
 case d34 => exact T.z_all
 case' d35 => apply ma_1 ?d36 ?_
 case' d36 => apply me_comp (N' := ["sign"]) (ix := [none]) ?d37 ?_ ?d38 ?d39 ?d40 ?d41 ?d42 ?_
 case d37 => exact ⟨rfl, by decide +kernel, by decide +kernel, comp_free _ _ rfl, rfl, comp_ix _ _ _ _ rfl⟩
 case' d38 => apply cg_name ?_
 case' d39 => apply mi_str ?_
 case d39 => exact (me_var (pvk 0 q0))
 case d40 => (intro _ _ _ _; exact (pgo (i := 0) (by decide +kernel) (show List.Nodup (["sign"] : List Str) from by decide +kernel) (by rfl)))
 case d41 => (intro _ _ _ _; exact mts_nil)
 case' d42 => (intro _ _ _ _; apply me_chain op_leA fm_le op_leA fm_le me_str ?d44 me_str ?_)
 case d44 => exact (me_var (pvk 0 (NmOk.own (by decide +kernel))))
 all_goals (try walk_at "late")
theorem ok_is_number (T : Txt K mg t) : FnOk P w K mg base CX0 1 t.f_is_number t.d_is_number ["thing"] (spM K m_is_number) := by
 refine T.F_is_number.okM (k := 0) sc_is_number rfl fun cdv A outer s H E hr => ?_
 unfold b_is_number
 conv => arg 2; whnf
 apply mss_one ?_
 apply ms_ret ?_
 apply me_and ?d3 ?d4
 case' d3 => apply me_CB call_instM fm_inst ?d5 ?d6 PyProof.Rows.boot_isinstance ?d7 ?_ ?_
 case d5 => exact q8
 case d6 => exact T.z_isinstance
 case' d7 => apply ma_2 ?d8 ?d9 ?_ ?_
 case d8 => exact (me_var (pvk 0 q6))
 case' d9 => apply me_C ?d10 ?_
 case' d10 => apply pe_bltnk (v := .ty "int") ?d11 ?d12 ?_ ?_
 case d11 => exact q9
 case d12 => exact T.z_int
 case' d4 => apply me_one ?_
 case' d4 => apply me_not ?_
 case' d4 => apply me_CB call_instM fm_inst ?d15 ?d16 PyProof.Rows.boot_isinstance ?d17 ?_ ?_
 case d15 => exact q8
 case d16 => exact T.z_isinstance
 case' d17 => apply ma_2 ?d18 ?d19 ?_ ?_
 case d18 => exact (me_var (pvk 0 q6))
 case' d19 => apply me_C ?d20 ?_
 case' d20 => apply pe_bltnk (v := .ty "bool") ?d21 ?d22 ?_ ?_
 case d21 => exact q7
 case d22 => exact T.z_bool
 all_goals (try walk_at "late")
theorem ok_is_value (T : Txt K mg t) : FnOk P w K mg base CX0 2 t.f_is_value t.d_is_value ["thing"] (spM K m_is_value) := by
 have C_is_number := Cal.of (ok_is_number (P := P) (w := w) (base := base) T) T.m_is_number T.F_is_number.kp T.b_is_number
 refine T.F_is_value.okM (k := 1) sc_is_value rfl fun cdv A outer s H E hr => ?_
 unfold b_is_value
 conv => arg 2; whnf
 apply mss_one ?_
 apply ms_ret ?_
 apply me_or ?d3 ?d4
 case' d3 => apply me_cal ?d5 ?_ ?d6 ?d7 ?_ ?_
 case d5 => exact C_is_number
 case d6 => exact q13
 case' d7 => apply ma_1 ?d8 ?_
 case d8 => exact (me_var (pvk 0 q10))
 case' d4 => apply me_one ?_
 case' d4 => apply me_CB call_instM fm_inst ?d10 ?d11 PyProof.Rows.boot_isinstance ?d12 ?_ ?_
 case d10 => exact q12
 case d11 => exact T.z_isinstance
 case' d12 => apply ma_2 ?d13 ?d14 ?_ ?_
 case d13 => exact (me_var (pvk 0 q10))
 case' d14 => apply me_C ?d15 ?_
 case' d15 => apply pe_bltnk (v := .ty "str") ?d16 ?d17 ?_ ?_
 case d16 => exact q11
 case d17 => exact T.z_str
 all_goals (try walk_at "late")
theorem ok_is_test (T : Txt K mg t) (n : Nat) : FnOk P w K mg base CX0 (n + 2) t.f_is_test t.d_is_test ["thing"] (spM K (m_is_test n)) := by
 induction n with
 | zero => exact FnOk.empty
 | succ n ih =>
   have C_is_name := Cal.of (ok_is_name (P := P) (w := w) (base := base) T) T.m_is_name T.F_is_name.kp T.b_is_name
   have C_is_value := Cal.of (ok_is_value (P := P) (w := w) (base := base) T) T.m_is_value T.F_is_value.kp T.b_is_value
   have C_is_test := Cal.of ih T.m_is_test T.F_is_test.kp T.b_is_test
   refine FnOk.mono (j := n + 2 + 1) (T.F_is_test.okM (k := n + 2) sc_is_test rfl fun cdv A outer s H E hr => ?_) (by omega)
   unfold b_is_test
   conv => arg 2; whnf
   apply mss_cons ?d1 ?d2
   case' d1 => apply ms_if ?d3 ?d4 mss_nil
   case' d3 => apply PW.pt ?_
   case' d3 => apply mw_or ?d6 ?d7
   case' d6 => apply mt_not ?_
   case' d6 => apply mt_val ?d9 ?_
   case' d9 => apply me_CB call_instM fm_inst ?d10 ?d11 PyProof.Rows.boot_isinstance ?d12 ?_ ?_
   case d10 => exact q22
   case d11 => exact T.z_isinstance
   case' d12 => apply ma_2 ?d13 ?d14 ?_ ?_
   case d13 => exact (me_var (pvk 0 q20))
   case' d14 => apply me_C ?d15 ?_
   case' d15 => apply pe_bltnk (v := .ty "tuple") ?d16 ?d17 ?_ ?_
   case d16 => exact q21
   case d17 => exact T.z_tuple
   case' d7 => apply mw_or1 ?_
   case' d7 => apply mt_cmp ?d19 fm_eq ?d20 me_int ?_
   case d19 => exact (op_eqK (hu150 hr))
   case' d20 => apply me_CB call_lenM fm_len ?d21 ?d22 PySem.boot_len ?d23 ?_ ?_
   case d21 => exact q16
   case d22 => exact T.z_len
   case' d23 => apply ma_1 ?d24 ?_
   case d24 => exact (me_var (pvk 0 q20))
   case' d4 => apply mss_one ?_
   case' d4 => apply ms_ret me_bl
   case' d2 => apply mss_cons ?d26 ?d27
   case' d26 => apply ms_set (i := 1) ?d28 ?_ ?d29 ?d30 ?_ ?_
   case d28 => exact sc_is_test.nd
   case d29 => exact (Or.inl q17.lk)
   case' d30 => apply me_ix (ix_M (hu151 hr)) fm_ix ?d31 me_int ?_
   case d31 => exact (me_var (pvk 0 q20))
   case' d27 => apply mss_cons ?d32 ?d33
   case' d32 => apply ms_set (i := 2) ?d34 ?_ ?d35 ?d36 ?_ ?_
   case d34 => exact sc_is_test.nd
   case d35 => exact (Or.inl q14.lk)
   case' d36 => apply me_slice sl_M fm_sl ?d37 ?d38 mo_none
   case d37 => exact (me_var (pvk 0 q20))
   case' d38 => apply mo_some me_int
   case' d33 => apply mss_cons ?d39 ?d40
   case' d39 => apply ms_if ?d41 ?d42 mss_nil
   case' d41 => apply mt_cmp ?d43 fm_eq ?d44 me_str ?_
   case d43 => exact (op_eqK (hu150 hr))
   case d44 => exact (me_var (pvk 1 q17))
   case' d42 => apply mss_one ?_
   case' d42 => apply ms_ret ?_
   case' d42 => apply me_cmp ?d47 fm_eq ?d48 me_int ?_
   case d47 => exact (op_eqK (hu150 hr))
   case' d48 => apply me_CB call_lenM fm_len ?d49 ?d50 PySem.boot_len ?d51 ?_ ?_
   case d49 => exact q16
   case d50 => exact T.z_len
   case' d51 => apply ma_1 ?d52 ?_
   case d52 => exact (me_var (pvk 2 q14))
   case' d40 => apply mss_cons ?d53 ?d54
   case' d53 => apply ms_if ?d55 ?d56 mss_nil
   case' d55 => apply mt_cmp ?d57 fm_eq ?d58 me_str ?_
   case d57 => exact (op_eqK (hu150 hr))
   case d58 => exact (me_var (pvk 1 q17))
   case' d56 => apply mss_one ?_
   case' d56 => apply ms_ret ?_
   case' d56 => apply me_and ?d61 ?d62
   case' d61 => apply me_cmp ?d63 fm_eq ?d64 me_int ?_
   case d63 => exact (op_eqK (hu150 hr))
   case' d64 => apply me_CB call_lenM fm_len ?d65 ?d66 PySem.boot_len ?d67 ?_ ?_
   case d65 => exact q16
   case d66 => exact T.z_len
   case' d67 => apply ma_1 ?d68 ?_
   case d68 => exact (me_var (pvk 2 q14))
   case' d62 => apply me_one ?_
   case' d62 => apply me_cal ?d70 ?_ ?d71 ?d72 ?_ ?_
   case d70 => exact C_is_name
   case d71 => exact q19
   case' d72 => apply ma_1 ?d73 ?_
   case' d73 => apply me_ix (ix_M (hu151 hr)) fm_ix ?d74 me_int ?_
   case d74 => exact (me_var (pvk 2 q14))
   case' d54 => apply mss_cons ?d75 ?d76
   case' d75 => apply ms_if ?d77 ?d78 mss_nil
   case' d77 => apply mt_cmp ?d79 fm_in ?d80 ?d81 ?_
   case d79 => exact (op_inM (hu151 hr))
   case d80 => exact (me_var (pvk 1 q17))
   case' d81 => apply me_tup ?_
   case' d81 => apply ma_3 me_str me_str me_str ?_ ?_ ?_
   case' d78 => apply mss_one ?_
   case' d78 => apply ms_ret ?_
   case' d78 => apply me_and ?d85 ?d86
   case' d85 => apply me_cmp ?d87 fm_eq ?d88 me_int ?_
   case d87 => exact (op_eqK (hu150 hr))
   case' d88 => apply me_CB call_lenM fm_len ?d89 ?d90 PySem.boot_len ?d91 ?_ ?_
   case d89 => exact q16
   case d90 => exact T.z_len
   case' d91 => apply ma_1 ?d92 ?_
   case d92 => exact (me_var (pvk 2 q14))
   case' d86 => apply me_and ?d93 ?d94
   case' d93 => apply me_cal ?d95 ?_ ?d96 ?d97 ?_ ?_
   case d95 => exact C_is_name
   case d96 => exact q19
   case' d97 => apply ma_1 ?d98 ?_
   case' d98 => apply me_ix (ix_M (hu151 hr)) fm_ix ?d99 me_int ?_
   case d99 => exact (me_var (pvk 2 q14))
   case' d94 => apply me_one ?_
   case' d94 => apply me_cal ?d101 ?_ ?d102 ?d103 ?_ ?_
   case d101 => exact C_is_value
   case d102 => exact q18
   case' d103 => apply ma_1 ?d104 ?_
   case' d104 => apply me_ix (ix_M (hu151 hr)) fm_ix ?d105 me_int ?_
   case d105 => exact (me_var (pvk 2 q14))
   case' d76 => apply mss_cons ?d106 ?d107
   case' d106 => apply ms_if ?d108 ?d109 mss_nil
   case' d108 => apply mt_cmp ?d110 fm_in ?d111 ?d112 ?_
   case d110 => exact (op_inM (hu151 hr))
   case d111 => exact (me_var (pvk 1 q17))
   case' d112 => apply me_tup ?_
   case' d112 => apply ma_2 me_str me_str ?_ ?_
   case' d109 => apply mss_one ?_
   case' d109 => apply ms_ret ?_
   case' d109 => apply me_and ?d116 ?d117
   case' d116 => apply me_cmp ?d118 fm_eq ?d119 me_int ?_
   case d118 => exact (op_eqK (hu150 hr))
   case' d119 => apply me_CB call_lenM fm_len ?d120 ?d121 PySem.boot_len ?d122 ?_ ?_
   case d120 => exact q16
   case d121 => exact T.z_len
   case' d122 => apply ma_1 ?d123 ?_
   case d123 => exact (me_var (pvk 2 q14))
   case' d117 => apply me_and ?d124 ?d125
   case' d124 => apply me_cal ?d126 ?_ ?d127 ?d128 ?_ ?_
   case d126 => exact C_is_test
   case d127 => exact q15
   case' d128 => apply ma_1 ?d129 ?_
   case' d129 => apply me_ix (ix_M (hu151 hr)) fm_ix ?d130 me_int ?_
   case d130 => exact (me_var (pvk 2 q14))
   case' d125 => apply me_one ?_
   case' d125 => apply me_cal ?d132 ?_ ?d133 ?d134 ?_ ?_
   case d132 => exact C_is_test
   case d133 => exact q15
   case' d134 => apply ma_1 ?d135 ?_
   case' d135 => apply me_ix (ix_M (hu151 hr)) fm_ix ?d136 me_int ?_
   case d136 => exact (me_var (pvk 2 q14))
   case' d107 => apply mss_one ?_
   case' d107 => apply ms_ret ?_
   case' d107 => apply me_and ?d139 ?d140
   case' d139 => apply me_cmp ?d141 fm_eq ?d142 me_str ?_
   case d141 => exact (op_eqK (hu150 hr))
   case d142 => exact (me_var (pvk 1 q17))
   case' d140 => apply me_and ?d143 ?d144
   case' d143 => apply me_cmp ?d145 fm_eq ?d146 me_int ?_
   case d145 => exact (op_eqK (hu150 hr))
   case' d146 => apply me_CB call_lenM fm_len ?d147 ?d148 PySem.boot_len ?d149 ?_ ?_
   case d147 => exact q16
   case d148 => exact T.z_len
   case' d149 => apply ma_1 ?d150 ?_
   case d150 => exact (me_var (pvk 2 q14))
   case' d144 => apply me_one ?_
   case' d144 => apply me_cal ?d152 ?_ ?d153 ?d154 ?_ ?_
   case d152 => exact C_is_test
   case d153 => exact q15
   case' d154 => apply ma_1 ?d155 ?_
   case' d155 => apply me_ix (ix_M (hu151 hr)) fm_ix ?d156 me_int ?_
   case d156 => exact (me_var (pvk 2 q14))
   all_goals (try walk_at "late")
theorem ok_are_times (T : Txt K mg t) : FnOk P w K mg base CX0 2 t.f_are_times t.d_are_times ["low", "high"] (spM K m_are_times) := by
 have C_is_number := Cal.of (ok_is_number (P := P) (w := w) (base := base) T) T.m_is_number T.F_is_number.kp T.b_is_number
 refine T.F_are_times.okM (k := 1) sc_are_times rfl fun cdv A outer s H E hr => ?_
 unfold b_are_times
 conv => arg 2; whnf
 apply mss_one ?_
 apply ms_ret ?_
 apply me_and ?d3 ?d4
 case' d3 => apply me_cal ?d5 ?_ ?d6 ?d7 ?_ ?_
 case d5 => exact C_is_number
 case d6 => exact q35
 case' d7 => apply ma_1 ?d8 ?_
 case d8 => exact (me_var (pvk 0 q32))
 case' d4 => apply me_and ?d9 ?d10
 case' d9 => apply me_cal ?d11 ?_ ?d12 ?d13 ?_ ?_
 case d11 => exact C_is_number
 case d12 => exact q35
 case' d13 => apply ma_1 ?d14 ?_
 case d14 => exact (me_var (pvk 1 q33))
 case' d10 => apply me_one ?_
 case' d10 => apply me_chain3 op_leA fm_le op_leA fm_le op_leA fm_le me_int ?d16 ?d17 ?d18 ?_
 case d16 => exact (me_var (pvk 0 q32))
 case d17 => exact (me_var (pvk 1 q33))
 case' d18 => apply me_glob ?d19 ?d20 ?d21
 case d19 => exact q34
 case d20 => exact T.c_MOST_TIMES
 case d21 => exact T.r_MOST_TIMES
 all_goals (try walk_at "late")
theorem ok_is_way (T : Txt K mg t) (n : Nat) : FnOk P w K mg base CX0 (n + 2) t.f_is_way t.d_is_way ["thing"] (spM K (m_is_way n)) := by
 induction n with
 | zero => exact FnOk.empty
 | succ n ih =>
   have C_are_times := Cal.of (ok_are_times (P := P) (w := w) (base := base) T) T.m_are_times T.F_are_times.kp T.b_are_times
   have C_is_name := Cal.of (ok_is_name (P := P) (w := w) (base := base) T) T.m_is_name T.F_is_name.kp T.b_is_name
   have C_is_way := Cal.of ih T.m_is_way T.F_is_way.kp T.b_is_way
   refine FnOk.mono (j := n + 2 + 1) (T.F_is_way.okM (k := n + 2) sc_is_way rfl fun cdv A outer s H E hr => ?_) (by omega)
   unfold b_is_way
   conv => arg 2; whnf
   apply mss_cons ?d1 ?d2
   case' d1 => apply ms_if ?d3 ?d4 mss_nil
   case' d3 => apply PW.pt ?_
   case' d3 => apply mw_or ?d6 ?d7
   case' d6 => apply mt_not ?_
   case' d6 => apply mt_val ?d9 ?_
   case' d9 => apply me_CB call_instM fm_inst ?d10 ?d11 PyProof.Rows.boot_isinstance ?d12 ?_ ?_
   case d10 => exact q31
   case d11 => exact T.z_isinstance
   case' d12 => apply ma_2 ?d13 ?d14 ?_ ?_
   case d13 => exact (me_var (pvk 0 q29))
   case' d14 => apply me_C ?d15 ?_
   case' d15 => apply pe_bltnk (v := .ty "tuple") ?d16 ?d17 ?_ ?_
   case d16 => exact q30
   case d17 => exact T.z_tuple
   case' d7 => apply mw_or1 ?_
   case' d7 => apply mt_cmp ?d19 fm_eq ?d20 me_int ?_
   case d19 => exact (op_eqK (hu150 hr))
   case' d20 => apply me_CB call_lenM fm_len ?d21 ?d22 PySem.boot_len ?d23 ?_ ?_
   case d21 => exact q26
   case d22 => exact T.z_len
   case' d23 => apply ma_1 ?d24 ?_
   case d24 => exact (me_var (pvk 0 q29))
   case' d4 => apply mss_one ?_
   case' d4 => apply ms_ret me_bl
   case' d2 => apply mss_cons ?d26 ?d27
   case' d26 => apply ms_set (i := 1) ?d28 ?_ ?d29 ?d30 ?_ ?_
   case d28 => exact sc_is_way.nd
   case d29 => exact (Or.inl q27.lk)
   case' d30 => apply me_ix (ix_M (hu151 hr)) fm_ix ?d31 me_int ?_
   case d31 => exact (me_var (pvk 0 q29))
   case' d27 => apply mss_cons ?d32 ?d33
   case' d32 => apply ms_set (i := 2) ?d34 ?_ ?d35 ?d36 ?_ ?_
   case d34 => exact sc_is_way.nd
   case d35 => exact (Or.inl q23.lk)
   case' d36 => apply me_slice sl_M fm_sl ?d37 ?d38 mo_none
   case d37 => exact (me_var (pvk 0 q29))
   case' d38 => apply mo_some me_int
   case' d33 => apply mss_cons ?d39 ?d40
   case' d39 => apply ms_if ?d41 ?d42 mss_nil
   case' d41 => apply mt_cmp ?d43 fm_eq ?d44 me_str ?_
   case d43 => exact (op_eqK (hu150 hr))
   case d44 => exact (me_var (pvk 1 q27))
   case' d42 => apply mss_one ?_
   case' d42 => apply ms_ret ?_
   case' d42 => apply me_and ?d47 ?d48
   case' d47 => apply me_cmp ?d49 fm_eq ?d50 me_int ?_
   case d49 => exact (op_eqK (hu150 hr))
   case' d50 => apply me_CB call_lenM fm_len ?d51 ?d52 PySem.boot_len ?d53 ?_ ?_
   case d51 => exact q26
   case d52 => exact T.z_len
   case' d53 => apply ma_1 ?d54 ?_
   case d54 => exact (me_var (pvk 2 q23))
   case' d48 => apply me_and ?d55 ?d56
   case' d55 => apply me_or ?d57 ?d58
   case' d57 => apply me_cmp op_isA fm_is ?d59 me_non ?_
   case' d59 => apply me_ix (ix_M (hu151 hr)) fm_ix ?d60 me_int ?_
   case d60 => exact (me_var (pvk 2 q23))
   case' d58 => apply me_one ?_
   case' d58 => apply me_cal ?d62 ?_ ?d63 ?d64 ?_ ?_
   case d62 => exact C_is_name
   case d63 => exact q28
   case' d64 => apply ma_1 ?d65 ?_
   case' d65 => apply me_ix (ix_M (hu151 hr)) fm_ix ?d66 me_int ?_
   case d66 => exact (me_var (pvk 2 q23))
   case' d56 => apply me_one ?_
   case' d56 => apply me_cmp ?d68 fm_in ?d69 ?d70 ?_
   case d68 => exact (op_inM (hu151 hr))
   case' d69 => apply me_ix (ix_M (hu151 hr)) fm_ix ?d71 me_int ?_
   case d71 => exact (me_var (pvk 2 q23))
   case' d70 => apply me_tup ?_
   case' d70 => apply ma_3 me_str me_str me_str ?_ ?_ ?_
   case' d40 => apply mss_cons ?d73 ?d74
   case' d73 => apply ms_if ?d75 ?d76 mss_nil
   case' d75 => apply mt_cmp ?d77 fm_eq ?d78 me_str ?_
   case d77 => exact (op_eqK (hu150 hr))
   case d78 => exact (me_var (pvk 1 q27))
   case' d76 => apply mss_one ?_
   case' d76 => apply ms_ret ?_
   case' d76 => apply me_cmp ?d81 fm_eq ?d82 me_int ?_
   case d81 => exact (op_eqK (hu150 hr))
   case' d82 => apply me_CB call_lenM fm_len ?d83 ?d84 PySem.boot_len ?d85 ?_ ?_
   case d83 => exact q26
   case d84 => exact T.z_len
   case' d85 => apply ma_1 ?d86 ?_
   case d86 => exact (me_var (pvk 2 q23))
   case' d74 => apply mss_cons ?d87 ?d88
   case' d87 => apply ms_if ?d89 ?d90 mss_nil
   case' d89 => apply mt_cmp ?d91 fm_in ?d92 ?d93 ?_
   case d91 => exact (op_inM (hu151 hr))
   case d92 => exact (me_var (pvk 1 q27))
   case' d93 => apply me_tup ?_
   case' d93 => apply ma_2 me_str me_str ?_ ?_
   case' d90 => apply mss_one ?_
   case' d90 => apply ms_ret ?_
   case' d90 => apply me_and ?d97 ?d98
   case' d97 => apply me_cmp ?d99 fm_eq ?d100 me_int ?_
   case d99 => exact (op_eqK (hu150 hr))
   case' d100 => apply me_CB call_lenM fm_len ?d101 ?d102 PySem.boot_len ?d103 ?_ ?_
   case d101 => exact q26
   case d102 => exact T.z_len
   case' d103 => apply ma_1 ?d104 ?_
   case d104 => exact (me_var (pvk 2 q23))
   case' d98 => apply me_and ?d105 ?d106
   case' d105 => apply me_cal ?d107 ?_ ?d108 ?d109 ?_ ?_
   case d107 => exact C_is_way
   case d108 => exact q24
   case' d109 => apply ma_1 ?d110 ?_
   case' d110 => apply me_ix (ix_M (hu151 hr)) fm_ix ?d111 me_int ?_
   case d111 => exact (me_var (pvk 2 q23))
   case' d106 => apply me_one ?_
   case' d106 => apply me_cal ?d113 ?_ ?d114 ?d115 ?_ ?_
   case d113 => exact C_is_way
   case d114 => exact q24
   case' d115 => apply ma_1 ?d116 ?_
   case' d116 => apply me_ix (ix_M (hu151 hr)) fm_ix ?d117 me_int ?_
   case d117 => exact (me_var (pvk 2 q23))
   case' d88 => apply mss_cons ?d118 ?d119
   case' d118 => apply ms_if ?d120 ?d121 mss_nil
   case' d120 => apply mt_cmp ?d122 fm_eq ?d123 me_str ?_
   case d122 => exact (op_eqK (hu150 hr))
   case d123 => exact (me_var (pvk 1 q27))
   case' d121 => apply mss_one ?_
   case' d121 => apply ms_ret ?_
   case' d121 => apply me_and ?d126 ?d127
   case' d126 => apply me_cmp ?d128 fm_eq ?d129 me_int ?_
   case d128 => exact (op_eqK (hu150 hr))
   case' d129 => apply me_CB call_lenM fm_len ?d130 ?d131 PySem.boot_len ?d132 ?_ ?_
   case d130 => exact q26
   case d131 => exact T.z_len
   case' d132 => apply ma_1 ?d133 ?_
   case d133 => exact (me_var (pvk 2 q23))
   case' d127 => apply me_one ?_
   case' d127 => apply me_cal ?d135 ?_ ?d136 ?d137 ?_ ?_
   case d135 => exact C_is_way
   case d136 => exact q24
   case' d137 => apply ma_1 ?d138 ?_
   case' d138 => apply me_ix (ix_M (hu151 hr)) fm_ix ?d139 me_int ?_
   case d139 => exact (me_var (pvk 2 q23))
   case' d119 => apply mss_one ?_
   case' d119 => apply ms_ret ?_
   case' d119 => apply me_and ?d142 ?d143
   case' d142 => apply me_cmp ?d144 fm_eq ?d145 me_str ?_
   case d144 => exact (op_eqK (hu150 hr))
   case d145 => exact (me_var (pvk 1 q27))
   case' d143 => apply me_and ?d146 ?d147
   case' d146 => apply me_cmp ?d148 fm_eq ?d149 me_int ?_
   case d148 => exact (op_eqK (hu150 hr))
   case' d149 => apply me_CB call_lenM fm_len ?d150 ?d151 PySem.boot_len ?d152 ?_ ?_
   case d150 => exact q26
   case d151 => exact T.z_len
   case' d152 => apply ma_1 ?d153 ?_
   case d153 => exact (me_var (pvk 2 q23))
   case' d147 => apply me_and ?d154 ?d155
   case' d154 => apply me_cal ?d156 ?_ ?d157 ?d158 ?_ ?_
   case d156 => exact C_are_times
   case d157 => exact q25
   case' d158 => apply ma_2 ?d159 ?d160 ?_ ?_
   case' d159 => apply me_ix (ix_M (hu151 hr)) fm_ix ?d161 me_int ?_
   case d161 => exact (me_var (pvk 2 q23))
   case' d160 => apply me_ix (ix_M (hu151 hr)) fm_ix ?d162 me_int ?_
   case d162 => exact (me_var (pvk 2 q23))
   case' d155 => apply me_one ?_
   case' d155 => apply me_cal ?d164 ?_ ?d165 ?d166 ?_ ?_
   case d164 => exact C_is_way
   case d165 => exact q24
   case' d166 => apply ma_1 ?d167 ?_
   case' d167 => apply me_ix (ix_M (hu151 hr)) fm_ix ?d168 me_int ?_
   case d168 => exact (me_var (pvk 2 q23))
   all_goals (try walk_at "late")
theorem ok_is_spot_number (T : Txt K mg t) : FnOk P w K mg base CX0 2 t.f_is_spot_number t.d_is_spot_number ["thing", "many"] (spM K m_is_spot_number) := by
 have C_is_number := Cal.of (ok_is_number (P := P) (w := w) (base := base) T) T.m_is_number T.F_is_number.kp T.b_is_number
 refine T.F_is_spot_number.okM (k := 1) sc_is_spot_number rfl fun cdv A outer s H E hr => ?_
 unfold b_is_spot_number
 conv => arg 2; whnf
 apply mss_one ?_
 apply ms_ret ?_
 apply me_and ?d3 ?d4
 case' d3 => apply me_cal ?d5 ?_ ?d6 ?d7 ?_ ?_
 case d5 => exact C_is_number
 case d6 => exact q76
 case' d7 => apply ma_1 ?d8 ?_
 case d8 => exact (me_var (pvk 0 q74))
 case' d4 => apply me_one ?_
 case' d4 => apply me_chain op_leA fm_le op_ltA fm_lt me_int ?d10 ?d11 ?_
 case d10 => exact (me_var (pvk 0 q74))
 case d11 => exact (me_var (pvk 1 q75))
 all_goals (try walk_at "late")
theorem ok_is_bow (T : Txt K mg t) : FnOk P w K mg base CX0 11 t.f_is_bow t.d_is_bow ["thing", "many"] (spM K m_is_bow) := by
 have C_is_spot_number := Cal.of (ok_is_spot_number (P := P) (w := w) (base := base) T) T.m_is_spot_number T.F_is_spot_number.kp T.b_is_spot_number
 have C_is_way := Cal.of (ok_is_way (P := P) (w := w) (base := base) T 8) T.m_is_way T.F_is_way.kp T.b_is_way
 refine T.F_is_bow.okM (k := 10) sc_is_bow rfl fun cdv A outer s H E hr => ?_
 unfold b_is_bow
 conv => arg 2; whnf
 apply mss_cons ?d1 ?d2
 case' d1 => apply ms_if ?d3 ?d4 mss_nil
 case' d3 => apply PW.pt ?_
 case' d3 => apply mw_or ?d6 ?d7
 case' d6 => apply mt_not ?_
 case' d6 => apply mt_val ?d9 ?_
 case' d9 => apply me_CB call_instM fm_inst ?d10 ?d11 PyProof.Rows.boot_isinstance ?d12 ?_ ?_
 case d10 => exact q61
 case d11 => exact T.z_isinstance
 case' d12 => apply ma_2 ?d13 ?d14 ?_ ?_
 case d13 => exact (me_var (pvk 0 q58))
 case' d14 => apply me_C ?d15 ?_
 case' d15 => apply pe_bltnk (v := .ty "tuple") ?d16 ?d17 ?_ ?_
 case d16 => exact q60
 case d17 => exact T.z_tuple
 case' d7 => apply mw_or1 ?_
 case' d7 => apply mt_cmp ?d19 fm_ne ?d20 me_int ?_
 case d19 => exact (op_neK (hu151 hr))
 case' d20 => apply me_CB call_lenM fm_len ?d21 ?d22 PySem.boot_len ?d23 ?_ ?_
 case d21 => exact q59
 case d22 => exact T.z_len
 case' d23 => apply ma_1 ?d24 ?_
 case d24 => exact (me_var (pvk 0 q58))
 case' d4 => apply mss_one ?_
 case' d4 => apply ms_ret me_bl
 case' d2 => apply mss_cons ?d26 ?d27
 case' d26 => apply ms_asg ?d28 ?d29 ?_ ?_ ?_
 case d28 => exact (me_var (pvk 0 q58))
 case' d29 => apply mg_tup ?_ ?d30 ?_ ?_
 case' d30 => apply mgs_cons ?d31 ?d32 ?_
 case' d31 => apply mg_name ?_
 case' d31 => apply pg_name (i := 2) ?d34 ?_ ?d35 ?_
 case d34 => exact sc_is_bow.nd
 case d35 => exact (Or.inl q57.lk)
 case' d32 => apply mgs_cons ?d36 ?d37 ?_
 case' d36 => apply mg_name ?_
 case' d36 => apply pg_name (i := 3) ?d39 ?_ ?d40 ?_
 case d39 => exact sc_is_bow.nd
 case d40 => exact (Or.inl q54.lk)
 case' d37 => apply mgs_cons ?d41 ?d42 ?_
 case' d41 => apply mg_name ?_
 case' d41 => apply pg_name (i := 4) ?d44 ?_ ?d45 ?_
 case d44 => exact sc_is_bow.nd
 case d45 => exact (Or.inl q52.lk)
 case' d42 => apply mgs_cons ?d46 mgs_nil ?_
 case' d46 => apply mg_name ?_
 case' d46 => apply pg_name (i := 5) ?d48 ?_ ?d49 ?_
 case d48 => exact sc_is_bow.nd
 case d49 => exact (Or.inl q50.lk)
 case' d27 => apply mss_one ?_
 case' d27 => apply ms_ret ?_
 case' d27 => apply me_and ?d52 ?d53
 case' d52 => apply me_cal ?d54 ?_ ?d55 ?d56 ?_ ?_
 case d54 => exact C_is_spot_number
 case d55 => exact q56
 case' d56 => apply ma_2 ?d57 ?d58 ?_ ?_
 case d57 => exact (me_var (pvk 2 q57))
 case d58 => exact (me_var (pvk 1 q55))
 case' d53 => apply me_and ?d59 ?d60
 case' d59 => apply me_cal ?d61 ?_ ?d62 ?d63 ?_ ?_
 case d61 => exact C_is_spot_number
 case d62 => exact q56
 case' d63 => apply ma_2 ?d64 ?d65 ?_ ?_
 case d64 => exact (me_var (pvk 3 q54))
 case d65 => exact (me_var (pvk 1 q55))
 case' d60 => apply me_and ?d66 ?d67
 case' d66 => apply me_cmp ?d68 fm_in ?d69 ?d70 ?_
 case d68 => exact (op_inM (hu151 hr))
 case d69 => exact (me_var (pvk 4 q52))
 case' d70 => apply me_glob ?d71 ?d72 ?d73
 case d71 => exact q53
 case d72 => exact T.c_BOW_SORTS
 case d73 => exact T.r_BOW_SORTS
 case' d67 => apply me_one ?_
 case' d67 => apply me_cal ?d75 ?_ ?d76 ?d77 ?_ ?_
 case d75 => exact C_is_way
 case d76 => exact q51
 case' d77 => apply ma_1 ?d78 ?_
 case d78 => exact (me_var (pvk 5 q50))
 all_goals (try walk_at "late")
theorem ok_is_pair (T : Txt K mg t) : FnOk P w K mg base CX0 3 t.f_is_pair t.d_is_pair ["thing", "many"] (spM K m_is_pair) := by
 have C_is_spot_number := Cal.of (ok_is_spot_number (P := P) (w := w) (base := base) T) T.m_is_spot_number T.F_is_spot_number.kp T.b_is_spot_number
 have C_is_name := Cal.of (ok_is_name (P := P) (w := w) (base := base) T) T.m_is_name T.F_is_name.kp T.b_is_name
 refine T.F_is_pair.okM (k := 2) sc_is_pair rfl fun cdv A outer s H E hr => ?_
 unfold b_is_pair
 conv => arg 2; whnf
 apply mss_cons ?d1 ?d2
 case' d1 => apply ms_if ?d3 ?d4 mss_nil
 case' d3 => apply PW.pt ?_
 case' d3 => apply mw_or ?d6 ?d7
 case' d6 => apply mt_not ?_
 case' d6 => apply mt_val ?d9 ?_
 case' d9 => apply me_CB call_instM fm_inst ?d10 ?d11 PyProof.Rows.boot_isinstance ?d12 ?_ ?_
 case d10 => exact q73
 case d11 => exact T.z_isinstance
 case' d12 => apply ma_2 ?d13 ?d14 ?_ ?_
 case d13 => exact (me_var (pvk 0 q69))
 case' d14 => apply me_C ?d15 ?_
 case' d15 => apply pe_bltnk (v := .ty "tuple") ?d16 ?d17 ?_ ?_
 case d16 => exact q72
 case d17 => exact T.z_tuple
 case' d7 => apply mw_or1 ?_
 case' d7 => apply mt_cmp ?d19 fm_eq ?d20 me_int ?_
 case d19 => exact (op_eqK (hu150 hr))
 case' d20 => apply me_CB call_lenM fm_len ?d21 ?d22 PySem.boot_len ?d23 ?_ ?_
 case d21 => exact q71
 case d22 => exact T.z_len
 case' d23 => apply ma_1 ?d24 ?_
 case d24 => exact (me_var (pvk 0 q69))
 case' d4 => apply mss_one ?_
 case' d4 => apply ms_ret me_bl
 case' d2 => apply mss_cons ?d26 ?d27
 case' d26 => apply ms_if ?d28 ?d29 mss_nil
 case' d28 => apply mt_cmp ?d30 fm_eq ?d31 me_str ?_
 case d30 => exact (op_eqK (hu150 hr))
 case' d31 => apply me_ix (ix_M (hu151 hr)) fm_ix ?d32 me_int ?_
 case d32 => exact (me_var (pvk 0 q69))
 case' d29 => apply mss_one ?_
 case' d29 => apply ms_ret ?_
 case' d29 => apply me_and ?d35 ?d36
 case' d35 => apply me_cmp ?d37 fm_eq ?d38 me_int ?_
 case d37 => exact (op_eqK (hu150 hr))
 case' d38 => apply me_CB call_lenM fm_len ?d39 ?d40 PySem.boot_len ?d41 ?_ ?_
 case d39 => exact q71
 case d40 => exact T.z_len
 case' d41 => apply ma_1 ?d42 ?_
 case d42 => exact (me_var (pvk 0 q69))
 case' d36 => apply me_and ?d43 ?d44
 case' d43 => apply me_cal ?d45 ?_ ?d46 ?d47 ?_ ?_
 case d45 => exact C_is_spot_number
 case d46 => exact q66
 case' d47 => apply ma_2 ?d48 ?d49 ?_ ?_
 case' d48 => apply me_ix (ix_M (hu151 hr)) fm_ix ?d50 me_int ?_
 case d50 => exact (me_var (pvk 0 q69))
 case d49 => exact (me_var (pvk 1 q65))
 case' d44 => apply me_one ?_
 case' d44 => apply me_cal ?d52 ?_ ?d53 ?d54 ?_ ?_
 case d52 => exact C_is_spot_number
 case d53 => exact q66
 case' d54 => apply ma_2 ?d55 ?d56 ?_ ?_
 case' d55 => apply me_ix (ix_M (hu151 hr)) fm_ix ?d57 me_int ?_
 case d57 => exact (me_var (pvk 0 q69))
 case d56 => exact (me_var (pvk 1 q65))
 case' d27 => apply mss_cons ?d58 ?d59
 case' d58 => apply ms_if ?d60 ?d61 mss_nil
 case' d60 => apply PW.pt ?_
 case' d60 => apply mw_or ?d63 ?d64
 case' d63 => apply mt_cmp ?d65 fm_notIn ?d66 ?d67 ?_
 case d65 => exact (op_notInM (hu151 hr))
 case' d66 => apply me_ix (ix_M (hu151 hr)) fm_ix ?d68 me_int ?_
 case d68 => exact (me_var (pvk 0 q69))
 case' d67 => apply me_tup ?_
 case' d67 => apply ma_2 me_str me_str ?_ ?_
 case' d64 => apply mw_or1 ?_
 case' d64 => apply mt_cmp ?d71 fm_ne ?d72 me_int ?_
 case d71 => exact (op_neK (hu151 hr))
 case' d72 => apply me_CB call_lenM fm_len ?d73 ?d74 PySem.boot_len ?d75 ?_ ?_
 case d73 => exact q71
 case d74 => exact T.z_len
 case' d75 => apply ma_1 ?d76 ?_
 case d76 => exact (me_var (pvk 0 q69))
 case' d61 => apply mss_one ?_
 case' d61 => apply ms_ret me_bl
 case' d59 => apply mss_cons ?d78 ?d79
 case' d78 => apply ms_asg ?d80 ?d81 ?_ ?_ ?_
 case d80 => exact (me_var (pvk 0 q69))
 case' d81 => apply mg_tup ?_ ?d82 ?_ ?_
 case' d82 => apply mgs_cons ?d83 ?d84 ?_
 case' d83 => apply mg_name ?_
 case' d83 => apply pg_name (i := 2) ?d86 ?_ ?d87 ?_
 case d86 => exact sc_is_pair.nd
 case d87 => exact (Or.inl q70.lk)
 case' d84 => apply mgs_cons ?d88 ?d89 ?_
 case' d88 => apply mg_name ?_
 case' d88 => apply pg_name (i := 3) ?d91 ?_ ?d92 ?_
 case d91 => exact sc_is_pair.nd
 case d92 => exact (Or.inl q68.lk)
 case' d89 => apply mgs_cons ?d93 ?d94 ?_
 case' d93 => apply mg_name ?_
 case' d93 => apply pg_name (i := 4) ?d96 ?_ ?d97 ?_
 case d96 => exact sc_is_pair.nd
 case d97 => exact (Or.inl q67.lk)
 case' d94 => apply mgs_cons ?d98 ?d99 ?_
 case' d98 => apply mg_name ?_
 case' d98 => apply pg_name (i := 5) ?d101 ?_ ?d102 ?_
 case d101 => exact sc_is_pair.nd
 case d102 => exact (Or.inl q64.lk)
 case' d99 => apply mgs_cons ?d103 mgs_nil ?_
 case' d103 => apply mg_name ?_
 case' d103 => apply pg_name (i := 6) ?d105 ?_ ?d106 ?_
 case d105 => exact sc_is_pair.nd
 case d106 => exact (Or.inl q62.lk)
 case' d79 => apply mss_one ?_
 case' d79 => apply ms_ret ?_
 case' d79 => apply me_and ?d109 ?d110
 case' d109 => apply me_cal ?d111 ?_ ?d112 ?d113 ?_ ?_
 case d111 => exact C_is_spot_number
 case d112 => exact q66
 case' d113 => apply ma_2 ?d114 ?d115 ?_ ?_
 case d114 => exact (me_var (pvk 3 q68))
 case d115 => exact (me_var (pvk 1 q65))
 case' d110 => apply me_and ?d116 ?d117
 case' d116 => apply me_cal ?d118 ?_ ?d119 ?d120 ?_ ?_
 case d118 => exact C_is_name
 case d119 => exact q63
 case' d120 => apply ma_1 ?d121 ?_
 case d121 => exact (me_var (pvk 4 q67))
 case' d117 => apply me_and ?d122 ?d123
 case' d122 => apply me_cal ?d124 ?_ ?d125 ?d126 ?_ ?_
 case d124 => exact C_is_spot_number
 case d125 => exact q66
 case' d126 => apply ma_2 ?d127 ?d128 ?_ ?_
 case d127 => exact (me_var (pvk 5 q64))
 case d128 => exact (me_var (pvk 1 q65))
 case' d123 => apply me_one ?_
 case' d123 => apply me_cal ?d130 ?_ ?d131 ?d132 ?_ ?_
 case d130 => exact C_is_name
 case d131 => exact q63
 case' d132 => apply ma_1 ?d133 ?_
 case d133 => exact (me_var (pvk 6 q62))
 all_goals (try walk_at "late")
theorem ok_is_spot (T : Txt K mg t) : FnOk P w K mg base CX0 11 t.f_is_spot t.d_is_spot ["thing"] (spM K m_is_spot) := by
 have C_is_test := Cal.of (ok_is_test (P := P) (w := w) (base := base) T 8) T.m_is_test T.F_is_test.kp T.b_is_test
 have C_is_name := Cal.of (ok_is_name (P := P) (w := w) (base := base) T) T.m_is_name T.F_is_name.kp T.b_is_name
 refine T.F_is_spot.okM (k := 10) sc_is_spot rfl fun cdv A outer s H E hr => ?_
 unfold b_is_spot
 conv => arg 2; whnf
 apply mss_cons ?d1 ?d2
 case' d1 => apply ms_if ?d3 ?d4 mss_nil
 case' d3 => apply PW.pt ?_
 case' d3 => apply mw_or ?d6 ?d7
 case' d6 => apply mt_not ?_
 case' d6 => apply mt_val ?d9 ?_
 case' d9 => apply me_CB call_instM fm_inst ?d10 ?d11 PyProof.Rows.boot_isinstance ?d12 ?_ ?_
 case d10 => exact q49
 case d11 => exact T.z_isinstance
 case' d12 => apply ma_2 ?d13 ?d14 ?_ ?_
 case d13 => exact (me_var (pvk 0 q44))
 case' d14 => apply me_C ?d15 ?_
 case' d15 => apply pe_bltnk (v := .ty "tuple") ?d16 ?d17 ?_ ?_
 case d16 => exact q48
 case d17 => exact T.z_tuple
 case' d7 => apply mw_or1 ?_
 case' d7 => apply mt_cmp ?d19 fm_ne ?d20 me_int ?_
 case d19 => exact (op_neK (hu151 hr))
 case' d20 => apply me_CB call_lenM fm_len ?d21 ?d22 PySem.boot_len ?d23 ?_ ?_
 case d21 => exact q47
 case d22 => exact T.z_len
 case' d23 => apply ma_1 ?d24 ?_
 case d24 => exact (me_var (pvk 0 q44))
 case' d4 => apply mss_one ?_
 case' d4 => apply ms_ret me_bl
 case' d2 => apply mss_one ?_
 case' d2 => apply ms_ret ?_
 case' d2 => apply me_and ?d28 ?d29
 case' d28 => apply me_or ?d30 ?d31
 case' d30 => apply me_cmp op_isA fm_is ?d32 me_non ?_
 case' d32 => apply me_ix (ix_M (hu151 hr)) fm_ix ?d33 me_int ?_
 case d33 => exact (me_var (pvk 0 q44))
 case' d31 => apply me_one ?_
 case' d31 => apply me_cal ?d35 ?_ ?d36 ?d37 ?_ ?_
 case d35 => exact C_is_name
 case d36 => exact q46
 case' d37 => apply ma_1 ?d38 ?_
 case' d38 => apply me_ix (ix_M (hu151 hr)) fm_ix ?d39 me_int ?_
 case d39 => exact (me_var (pvk 0 q44))
 case' d29 => apply me_one ?_
 case' d29 => apply me_cal ?d41 ?_ ?d42 ?d43 ?_ ?_
 case d41 => exact C_is_test
 case d42 => exact q45
 case' d43 => apply ma_1 ?d44 ?_
 case' d44 => apply me_ix (ix_M (hu151 hr)) fm_ix ?d45 me_int ?_
 case d45 => exact (me_var (pvk 0 q44))
 all_goals (try walk_at "late")
theorem ok_is_pattern (T : Txt K mg t) : FnOk P w K mg base CX0 12 t.f_is_pattern t.d_is_pattern ["thing"] (spM K m_is_pattern) := by
 have C_is_bow := Cal.of (ok_is_bow (P := P) (w := w) (base := base) T) T.m_is_bow T.F_is_bow.kp T.b_is_bow
 have C_is_pair := Cal.of (ok_is_pair (P := P) (w := w) (base := base) T) T.m_is_pair T.F_is_pair.kp T.b_is_pair
 have C_is_spot := Cal.of (ok_is_spot (P := P) (w := w) (base := base) T) T.m_is_spot T.F_is_spot.kp T.b_is_spot
 refine T.F_is_pattern.okM (k := 11) sc_is_pattern rfl fun cdv A outer s H E hr => ?_
 unfold b_is_pattern
 conv => arg 2; whnf
 apply mss_cons ?d1 ?d2
 case' d1 => apply ms_if ?d3 ?d4 mss_nil
 case' d3 => apply PW.pt ?_
 case' d3 => apply mw_or ?d6 ?d7
 case' d6 => apply mt_not ?_
 case' d6 => apply mt_val ?d9 ?_
 case' d9 => apply me_CB call_instM fm_inst ?d10 ?d11 PyProof.Rows.boot_isinstance ?d12 ?_ ?_
 case d10 => exact q42
 case d11 => exact T.z_isinstance
 case' d12 => apply ma_2 ?d13 ?d14 ?_ ?_
 case d13 => exact (me_var (pvk 0 q43))
 case' d14 => apply me_C ?d15 ?_
 case' d15 => apply pe_bltnk (v := .ty "tuple") ?d16 ?d17 ?_ ?_
 case d16 => exact q41
 case d17 => exact T.z_tuple
 case' d7 => apply mw_or1 ?_
 case' d7 => apply mt_cmp ?d19 fm_ne ?d20 me_int ?_
 case d19 => exact (op_neK (hu151 hr))
 case' d20 => apply me_CB call_lenM fm_len ?d21 ?d22 PySem.boot_len ?d23 ?_ ?_
 case d21 => exact q40
 case d22 => exact T.z_len
 case' d23 => apply ma_1 ?d24 ?_
 case d24 => exact (me_var (pvk 0 q43))
 case' d4 => apply mss_one ?_
 case' d4 => apply ms_ret me_bl
 case' d2 => apply mss_cons ?d26 ?d27
 case' d26 => apply ms_asg ?d28 ?d29 ?_ ?_ ?_
 case d28 => exact (me_var (pvk 0 q43))
 case' d29 => apply mg_tup ?_ ?d30 ?_ ?_
 case' d30 => apply mgs_cons ?d31 ?d32 ?_
 case' d31 => apply mg_name ?_
 case' d31 => apply pg_name (i := 1) ?d34 ?_ ?d35 ?_
 case d34 => exact sc_is_pattern.nd
 case d35 => exact (Or.inr q39.lk)
 case' d32 => apply mgs_cons ?d36 ?d37 ?_
 case' d36 => apply mg_name ?_
 case' d36 => apply pg_name (i := 2) ?d39 ?_ ?d40 ?_
 case d39 => exact sc_is_pattern.nd
 case d40 => exact (Or.inl q38.lk)
 case' d37 => apply mgs_cons ?d41 mgs_nil ?_
 case' d41 => apply mg_name ?_
 case' d41 => apply pg_name (i := 3) ?d43 ?_ ?d44 ?_
 case d43 => exact sc_is_pattern.nd
 case d44 => exact (Or.inl q36.lk)
 case' d27 => apply mss_cons ?d45 ?d46
 case' d45 => apply ms_if ?d47 ?d48 mss_nil
 case' d47 => apply PW.pt ?_
 case' d47 => apply mw_or ?d50 ?d51
 case' d50 => apply mt_not ?_
 case' d50 => apply mt_val ?d53 ?_
 case' d53 => apply me_CB call_instM fm_inst ?d54 ?d55 PyProof.Rows.boot_isinstance ?d56 ?_ ?_
 case d54 => exact q42
 case d55 => exact T.z_isinstance
 case' d56 => apply ma_2 ?d57 ?d58 ?_ ?_
 case d57 => exact (me_var (pvk 1 q39))
 case' d58 => apply me_C ?d59 ?_
 case' d59 => apply pe_bltnk (v := .ty "tuple") ?d60 ?d61 ?_ ?_
 case d60 => exact q41
 case d61 => exact T.z_tuple
 case' d51 => apply mw_or ?d62 ?d63
 case' d62 => apply mt_not ?_
 case' d62 => apply mt_val ?d65 ?_
 case' d65 => apply me_CB call_instM fm_inst ?d66 ?d67 PyProof.Rows.boot_isinstance ?d68 ?_ ?_
 case d66 => exact q42
 case d67 => exact T.z_isinstance
 case' d68 => apply ma_2 ?d69 ?d70 ?_ ?_
 case d69 => exact (me_var (pvk 2 q38))
 case' d70 => apply me_C ?d71 ?_
 case' d71 => apply pe_bltnk (v := .ty "tuple") ?d72 ?d73 ?_ ?_
 case d72 => exact q41
 case d73 => exact T.z_tuple
 case' d63 => apply mw_or1 ?_
 case' d63 => apply mt_not ?_
 case' d63 => apply mt_val ?d76 ?_
 case' d76 => apply me_CB call_instM fm_inst ?d77 ?d78 PyProof.Rows.boot_isinstance ?d79 ?_ ?_
 case d77 => exact q42
 case d78 => exact T.z_isinstance
 case' d79 => apply ma_2 ?d80 ?d81 ?_ ?_
 case d80 => exact (me_var (pvk 3 q36))
 case' d81 => apply me_C ?d82 ?_
 case' d82 => apply pe_bltnk (v := .ty "tuple") ?d83 ?d84 ?_ ?_
 case d83 => exact q41
 case d84 => exact T.z_tuple
 case' d48 => apply mss_one ?_
 case' d48 => apply ms_ret me_bl
 case' d46 => apply mss_cons ?d86 ?d87
 case' d86 => apply ms_if ?d88 ?d89 mss_nil
 case' d88 => apply PW.pt ?_
 case' d88 => apply mw_or ?d91 ?d92
 case' d91 => apply mt_cmp ?d93 fm_eq ?d94 me_int ?_
 case d93 => exact (op_eqK (hu150 hr))
 case' d94 => apply me_CB call_lenM fm_len ?d95 ?d96 PySem.boot_len ?d97 ?_ ?_
 case d95 => exact q40
 case d96 => exact T.z_len
 case' d97 => apply ma_1 ?d98 ?_
 case d98 => exact (me_var (pvk 1 q39))
 case' d92 => apply mw_or1 ?_
 case' d92 => apply mt_not ?_
 case' d92 => apply mt_val ?d101 ?_
 case' d101 => apply me_CB ?d102 fm_all ?d103 ?d104 PyProof.Rows.boot_all ?d105 ?_ ?_
 case d102 => exact (call_all rfl)
 case d103 => exact q37
 case d104 => exact T.z_all
 case' d105 => apply ma_1 ?d106 ?_
 case' d106 => apply me_comp (N' := ["spot"]) (ix := [none]) ?d107 ?_ ?d108 ?d109 ?d110 ?d111 ?d112 ?_
 case d107 => exact ⟨rfl, by decide +kernel, by decide +kernel, comp_free _ _ rfl, rfl, comp_ix _ _ _ _ rfl⟩
 case' d108 => apply cg_name ?_
 case' d109 => apply mi_tup ?_
 case d109 => exact (me_var (pvk 1 q39))
 case d110 => (intro _ _ _ _; exact (pgo (i := 0) (by decide +kernel) (show List.Nodup (["spot"] : List Str) from by decide +kernel) (by rfl)))
 case d111 => (intro _ _ _ _; exact mts_nil)
 case' d112 => (intro _ _ _ _; apply me_cal ?d114 ?_ ?d115 ?d116 ?_ ?_)
 case d114 => exact C_is_spot
 case d115 => exact (NmOk.glob (by decide +kernel))
 case' d116 => apply ma_1 ?d117 ?_
 case d117 => exact (me_var (pvk 0 (NmOk.own (by decide +kernel))))
 case' d89 => apply mss_one ?_
 case' d89 => apply ms_ret me_bl
 case' d87 => apply mss_one ?_
 case' d87 => apply ms_ret ?_
 case' d87 => apply me_and ?d121 ?d122
 case' d121 => apply me_CB ?d123 fm_all ?d124 ?d125 PyProof.Rows.boot_all ?d126 ?_ ?_
 case d123 => exact (call_all rfl)
 case d124 => exact q37
 case d125 => exact T.z_all
 case' d126 => apply ma_1 ?d127 ?_
 case' d127 => apply me_comp (N' := ["bow", "spots"]) (ix := [none, some 1]) ?d128 ?_ ?d129 ?d130 ?d131 ?d132 ?d133 ?_
 case d128 => exact ⟨rfl, by decide +kernel, by decide +kernel, comp_free _ _ rfl, rfl, comp_ix _ _ _ _ rfl⟩
 case' d129 => apply cg_name ?_
 case' d130 => apply mi_tup ?_
 case d130 => exact (me_var (pvk 2 q38))
 case d131 => (intro _ _ _ _; exact (pgo (i := 0) (by decide +kernel) (show List.Nodup (["bow", "spots"] : List Str) from by decide +kernel) (by rfl)))
 case d132 => (intro _ _ _ _; exact mts_nil)
 case' d133 => (intro _ _ _ _; apply me_cal ?d135 ?_ ?d136 ?d137 ?_ ?_)
 case d135 => exact C_is_bow
 case d136 => exact (NmOk.glob (by decide +kernel))
 case' d137 => apply ma_2 ?d138 ?d139 ?_ ?_
 case d138 => exact (me_var (pvk 0 (NmOk.own (by decide +kernel))))
 case' d139 => apply me_CB call_lenM fm_len ?d140 ?d141 PySem.boot_len ?d142 ?_ ?_
 case d140 => exact (NmOk.glob (by decide +kernel))
 case d141 => exact T.z_len
 case' d142 => apply ma_1 ?d143 ?_
 case d143 => exact (me_var (pvf 1 (by decide +kernel)))
 case' d122 => apply me_one ?_
 case' d122 => apply me_CB ?d145 fm_all ?d146 ?d147 PyProof.Rows.boot_all ?d148 ?_ ?_
 case d145 => exact (call_all rfl)
 case d146 => exact q37
 case d147 => exact T.z_all
 case' d148 => apply ma_1 ?d149 ?_
 case' d149 => apply me_comp (N' := ["pair", "spots"]) (ix := [none, some 1]) ?d150 ?_ ?d151 ?d152 ?d153 ?d154 ?d155 ?_
 case d150 => exact ⟨rfl, by decide +kernel, by decide +kernel, comp_free _ _ rfl, rfl, comp_ix _ _ _ _ rfl⟩
 case' d151 => apply cg_name ?_
 case' d152 => apply mi_tup ?_
 case d152 => exact (me_var (pvk 3 q36))
 case d153 => (intro _ _ _ _; exact (pgo (i := 0) (by decide +kernel) (show List.Nodup (["pair", "spots"] : List Str) from by decide +kernel) (by rfl)))
 case d154 => (intro _ _ _ _; exact mts_nil)
 case' d155 => (intro _ _ _ _; apply me_cal ?d157 ?_ ?d158 ?d159 ?_ ?_)
 case d157 => exact C_is_pair
 case d158 => exact (NmOk.glob (by decide +kernel))
 case' d159 => apply ma_2 ?d160 ?d161 ?_ ?_
 case d160 => exact (me_var (pvk 0 (NmOk.own (by decide +kernel))))
 case' d161 => apply me_CB call_lenM fm_len ?d162 ?d163 PySem.boot_len ?d164 ?_ ?_
 case d162 => exact (NmOk.glob (by decide +kernel))
 case d163 => exact T.z_len
 case' d164 => apply ma_1 ?d165 ?_
 case d165 => exact (me_var (pvf 1 (by decide +kernel)))
 all_goals (try walk_at "late")
theorem ok__law_box (T : Txt K mg t) : FnOk P w K mg base CX0 1 t.f__law_box t.d__law_box ["_law_script", "_law_k"] (spM K m__law_box) := by
 refine T.F__law_box.okM (k := 0) sc__law_box rfl fun cdv A outer s H E hr => ?_
 unfold b__law_box
 conv => arg 2; whnf
 apply mss_cons ?d1 ?d2
 case' d1 => apply ms_set (i := 2) ?d3 ?_ ?d4 me_int ?_ ?_
 case d3 => exact sc__law_box.nd
 case d4 => exact (Or.inl q77.lk)
 case' d2 => apply mss_cons ?d5 ?d6
 case' d5 => apply ms_if ?d7 ?d8 mss_nil
 case' d7 => apply mt_cmp op_ltA fm_lt ?d9 ?d10 ?_
 case d9 => exact (me_var (pvk 1 q80))
 case' d10 => apply me_CB call_lenM fm_len ?d11 ?d12 PySem.boot_len ?d13 ?_ ?_
 case d11 => exact q82
 case d12 => exact T.z_len
 case' d13 => apply ma_1 ?d14 ?_
 case d14 => exact (me_var (pvk 0 q81))
 case' d8 => apply mss_one ?_
 case' d8 => apply ms_set (i := 2) ?d16 ?_ ?d17 ?d18 ?_ ?_
 case d16 => exact sc__law_box.nd
 case d17 => exact (Or.inl q77.lk)
 case' d18 => apply me_ix (ix_M (hu151 hr)) fm_ix ?d19 ?d20 ?_
 case d19 => exact (me_var (pvk 0 q81))
 case d20 => exact (me_var (pvk 1 q80))
 case' d6 => apply mss_one ?_
 case' d6 => apply ms_ret ?_
 case' d6 => apply me_lstH ?_
 case' d6 => apply ma_3 ?d24 ?d25 ?d26 ?_ ?_ ?_
 case' d24 => apply me_op op_mulM fm_mul ?d27 ?d28
 case' d27 => apply me_CB call_abs fm_abs ?d29 ?d30 PyProof.Rows.Boot.abs ?d31 ?_ ?_
 case d29 => exact q78
 case d30 => exact T.z_abs
 case' d31 => apply ma_1 ?d32 ?_
 case d32 => exact (me_var (pvk 2 q77))
 case' d28 => apply me_CTy call_int1 fm_int ?d33 ?d34 ?_ ?d35 ?_ ?_
 case d33 => exact q79
 case d34 => exact T.z_int
 case' d35 => apply ma_1 ?d36 ?_
 case' d36 => apply me_cmp op_geA fm_ge ?d37 ?d38 ?_
 case' d37 => apply me_CB call_abs fm_abs ?d39 ?d40 PyProof.Rows.Boot.abs ?d41 ?_ ?_
 case d39 => exact q78
 case d40 => exact T.z_abs
 case' d41 => apply ma_1 ?d42 ?_
 case d42 => exact (me_var (pvk 2 q77))
 case' d38 => apply me_op op_pow fm_pow me_int me_int
 case' d25 => apply me_op op_mod fm_mod ?_ me_int
 case d25 => exact (me_var (pvk 2 q77))
 case' d26 => apply me_op op_mulM fm_mul me_int ?_
 case d26 => exact (me_var (pvk 1 q80))
 all_goals (try walk_at "late")
theorem ok__law_take (T : Txt K mg t) : FnOk P w K mg base CX0 1 t.f__law_take t.d__law_take ["_law_box_here", "_law_many"] (spM K m__law_take) := by
 refine T.F__law_take.okM (k := 0) sc__law_take rfl fun cdv A outer s H E hr => ?_
 unfold b__law_take
 conv => arg 2; whnf
 apply mss_cons ?d1 ?d2
 case' d1 => apply ms_if ?d3 ?d4 mss_nil
 case' d3 => apply mt_cmp op_gtA fm_gt ?d5 me_int ?_
 case' d5 => apply me_ix (ix_M (hu151 hr)) fm_ix ?d6 me_int ?_
 case d6 => exact (me_var (pvk 0 q85))
 case' d4 => apply mss_cons ?d7 ?d8
 case' d7 => apply ms_set (i := 2) ?d9 ?_ ?d10 ?d11 ?_ ?_
 case d9 => exact sc__law_take.nd
 case d10 => exact (Or.inl q86.lk)
 case' d11 => apply me_op op_mod fm_mod ?d12 ?d13
 case' d12 => apply me_ix (ix_M (hu151 hr)) fm_ix ?d14 me_int ?_
 case d14 => exact (me_var (pvk 0 q85))
 case d13 => exact (me_var (pvk 1 q84))
 case' d8 => apply mss_cons ?d15 ?d16
 case' d15 => apply ms_asg ?d17 ?d18 ?_ ?_ ?_
 case' d17 => apply me_op op_fdiv fm_div ?d19 ?d20
 case' d19 => apply me_ix (ix_M (hu151 hr)) fm_ix ?d21 me_int ?_
 case d21 => exact (me_var (pvk 0 q85))
 case d20 => exact (me_var (pvk 1 q84))
 case' d18 => apply mg_sub ?d22 me_int ?_
 case d22 => exact (me_var (pvk 0 q85))
 case' d16 => apply mss_one ?_
 case' d16 => apply ms_ret ?_
 case d16 => exact (me_var (pvk 2 q86))
 case' d2 => apply mss_cons ?d25 ?d26
 case' d25 => apply ms_asg ?d27 ?d28 ?_ ?_ ?_
 case' d27 => apply me_op op_addM fm_add ?_ me_int
 case' d27 => apply me_ix (ix_M (hu151 hr)) fm_ix ?d30 me_int ?_
 case d30 => exact (me_var (pvk 0 q85))
 case' d28 => apply mg_sub ?d31 me_int ?_
 case d31 => exact (me_var (pvk 0 q85))
 case' d26 => apply mss_cons ?d32 ?d33
 case' d32 => apply ms_set (i := 3) ?d34 ?_ ?d35 ?d36 ?_ ?_
 case d34 => exact sc__law_take.nd
 case d35 => exact (Or.inl q83.lk)
 case' d36 => apply me_op op_mod fm_mod ?_ me_int
 case' d36 => apply me_op op_mulM fm_mul ?d38 ?d39
 case' d38 => apply me_op op_addM fm_add ?_ me_int
 case' d38 => apply me_ix (ix_M (hu151 hr)) fm_ix ?d41 me_int ?_
 case d41 => exact (me_var (pvk 0 q85))
 case' d39 => apply me_op op_addM fm_add me_int ?_
 case' d39 => apply me_op op_mulM fm_mul ?d43 ?d44
 case' d43 => apply me_ix (ix_M (hu151 hr)) fm_ix ?d45 me_int ?_
 case d45 => exact (me_var (pvk 0 q85))
 case' d44 => apply me_ix (ix_M (hu151 hr)) fm_ix ?d46 me_int ?_
 case d46 => exact (me_var (pvk 0 q85))
 case' d33 => apply mss_cons ?d47 ?d48
 case' d47 => apply ms_set (i := 3) ?d49 ?_ ?d50 ?d51 ?_ ?_
 case d49 => exact sc__law_take.nd
 case d50 => exact (Or.inl q83.lk)
 case' d51 => apply me_op op_mod fm_mod ?_ me_int
 case' d51 => apply me_op op_mulM fm_mul ?d53 ?d54
 case d53 => exact (me_var (pvk 3 q83))
 case' d54 => apply me_op op_addM fm_add ?_ me_int
 case' d54 => apply me_op op_addM fm_add ?d56 ?d57
 case' d56 => apply me_op op_mod fm_mod ?_ me_int
 case d56 => exact (me_var (pvk 3 q83))
 case' d57 => apply me_op op_mulM fm_mul ?_ me_int
 case' d57 => apply me_ix (ix_M (hu151 hr)) fm_ix ?d60 me_int ?_
 case d60 => exact (me_var (pvk 0 q85))
 case' d48 => apply mss_one ?_
 case' d48 => apply ms_ret ?_
 case' d48 => apply me_op op_mod fm_mod ?d63 ?d64
 case' d63 => apply me_op op_addM fm_add ?d65 ?d66
 case' d65 => apply me_op op_fdiv fm_div ?_ me_int
 case' d65 => apply me_op op_mulM fm_mul ?d68 ?d69
 case d68 => exact (me_var (pvk 3 q83))
 case d69 => exact (me_var (pvk 3 q83))
 case' d66 => apply me_op op_fdiv fm_div ?_ me_int
 case d66 => exact (me_var (pvk 3 q83))
 case d64 => exact (me_var (pvk 1 q84))
 all_goals (try walk_at "late")
theorem ok__law_value (T : Txt K mg t) : FnOk P w K mg base CX0 2 t.f__law_value t.d__law_value ["_law_box_here"] (spM K m__law_value) := by
 have C__law_take := Cal.of (ok__law_take (P := P) (w := w) (base := base) T) T.m__law_take T.F__law_take.kp T.b__law_take
 refine T.F__law_value.okM (k := 1) sc__law_value rfl fun cdv A outer s H E hr => ?_
 unfold b__law_value
 conv => arg 2; whnf
 apply mss_cons ?d1 ?d2
 case' d1 => apply ms_set (i := 1) ?d3 ?_ ?d4 ?d5 ?_ ?_
 case d3 => exact sc__law_value.nd
 case d4 => exact (Or.inl q90.lk)
 case' d5 => apply me_ix (ix_M (hu151 hr)) fm_ix ?d6 ?d7 ?_
 case' d6 => apply me_lst ?_
 case' d6 => apply ma_4 ?d9 ?d10 me_int me_int ?_ ?_ ?_ ?_
 case' d9 => apply me_op op_sub fm_sub ?_ me_int
 case' d9 => apply me_op op_pow fm_pow me_int me_int
 case' d10 => apply me_op op_sub fm_sub me_int ?_
 case' d10 => apply me_op op_pow fm_pow me_int me_int
 case' d7 => apply me_cal ?d13 ?_ ?d14 ?d15 ?_ ?_
 case d13 => exact C__law_take
 case d14 => exact q89
 case' d15 => apply ma_2 ?d16 me_int ?_ ?_
 case d16 => exact (me_var (pvk 0 q88))
 case' d2 => apply mss_cons ?d17 ?d18
 case' d17 => apply ms_set (i := 2) ?d19 ?_ ?d20 ?d21 ?_ ?_
 case d19 => exact sc__law_value.nd
 case d20 => exact (Or.inl q87.lk)
 case' d21 => apply me_lst ?_
 case' d21 => apply ma_c4 ?d23 ?d24 ?d25 ?d26 ?d27 ?_ ?_ ?_ ?_
 case' d23 => apply me_cal ?d28 ?_ ?d29 ?d30 ?_ ?_
 case d28 => exact C__law_take
 case d29 => exact q89
 case' d30 => apply ma_2 ?d31 me_int ?_ ?_
 case d31 => exact (me_var (pvk 0 q88))
 case' d24 => apply me_cal ?d32 ?_ ?d33 ?d34 ?_ ?_
 case d32 => exact C__law_take
 case d33 => exact q89
 case' d34 => apply ma_2 ?d35 me_int ?_ ?_
 case d35 => exact (me_var (pvk 0 q88))
 case' d25 => apply me_op op_sub fm_sub ?_ me_int
 case' d25 => apply me_cal ?d37 ?_ ?d38 ?d39 ?_ ?_
 case d37 => exact C__law_take
 case d38 => exact q89
 case' d39 => apply ma_2 ?d40 me_int ?_ ?_
 case d40 => exact (me_var (pvk 0 q88))
 case d26 => exact (me_var (pvk 1 q90))
 case' d27 => apply ma_c4 me_str me_str me_str me_str ?d41 ?_ ?_ ?_ ?_
 case' d41 => apply ma_1 me_str ?_
 case' d18 => apply mss_one ?_
 case' d18 => apply ms_ret ?_
 case' d18 => apply me_ix (ix_M (hu151 hr)) fm_ix ?d44 ?d45 ?_
 case d44 => exact (me_var (pvk 2 q87))
 case' d45 => apply me_cal ?d46 ?_ ?d47 ?d48 ?_ ?_
 case d46 => exact C__law_take
 case d47 => exact q89
 case' d48 => apply ma_2 ?d49 me_int ?_ ?_
 case d49 => exact (me_var (pvk 0 q88))
 all_goals (try walk_at "late")
theorem ok__law_test (T : Txt K mg t) (n : Nat) : FnOk P w K mg base CX0 (n + 2) t.f__law_test t.d__law_test ["_law_box_here", "_law_deep"] (spM K (m__law_test n)) := by
 induction n with
 | zero => exact FnOk.empty
 | succ n ih =>
   have C__law_take := Cal.of (ok__law_take (P := P) (w := w) (base := base) T) T.m__law_take T.F__law_take.kp T.b__law_take
   have C__law_value := Cal.of (ok__law_value (P := P) (w := w) (base := base) T) T.m__law_value T.F__law_value.kp T.b__law_value
   have C__law_test := Cal.of ih T.m__law_test T.F__law_test.kp T.b__law_test
   refine FnOk.mono (j := n + 2 + 1) (T.F__law_test.okM (k := n + 2) sc__law_test rfl fun cdv A outer s H E hr => ?_) (by omega)
   unfold b__law_test
   conv => arg 2; whnf
   apply mss_cons ?d1 ?d2
   case' d1 => apply ms_set (i := 2) ?d3 ?_ ?d4 ?d5 ?_ ?_
   case d3 => exact sc__law_test.nd
   case d4 => exact (Or.inl q95.lk)
   case' d5 => apply me_cal ?d6 ?_ ?d7 ?d8 ?_ ?_
   case d6 => exact C__law_take
   case d7 => exact q100
   case' d8 => apply ma_2 ?d9 me_int ?_ ?_
   case d9 => exact (me_var (pvk 0 q93))
   case' d2 => apply mss_cons ?d10 ?d11
   case' d10 => apply ms_set (i := 3) ?d12 ?_ ?d13 ?d14 ?_ ?_
   case d12 => exact sc__law_test.nd
   case d13 => exact (Or.inl q92.lk)
   case' d14 => apply me_ix (ix_M (hu151 hr)) fm_ix ?d15 ?d16 ?_
   case' d15 => apply me_lst ?_
   case' d15 => apply ma_4 me_str me_str me_str me_str ?_ ?_ ?_ ?_
   case' d16 => apply me_cal ?d18 ?_ ?d19 ?d20 ?_ ?_
   case d18 => exact C__law_take
   case d19 => exact q100
   case' d20 => apply ma_2 ?d21 me_int ?_ ?_
   case d21 => exact (me_var (pvk 0 q93))
   case' d11 => apply mss_cons ?d22 ?d23
   case' d22 => apply ms_if ?d24 ?d25 mss_nil
   case' d24 => apply PW.pt ?_
   case' d24 => apply mw_and ?d27 ?d28
   case' d27 => apply mt_cmp op_gtA fm_gt ?d29 me_int ?_
   case d29 => exact (me_var (pvk 1 q96))
   case' d28 => apply mw_and1 ?_
   case' d28 => apply mt_cmp op_gtA fm_gt ?d31 me_int ?_
   case d31 => exact (me_var (pvk 2 q95))
   case' d25 => apply mss_cons ?d32 ?d33
   case' d32 => apply ms_par (i := 4) (j := 5) ?_ ?d34 ?_ ?_ ?_ ?d35 ?d36 ?d37 ?_ ?_
   case d34 => exact sc__law_test.nd
   case d35 => exact q97.lk
   case d36 => exact q98.lk
   case' d37 => apply ma_2 ?d38 ?d39 ?_ ?_
   case' d38 => apply me_cal ?d40 ?_ ?d41 ?d42 ?_ ?_
   case d40 => exact C__law_test
   case d41 => exact q99
   case' d42 => apply ma_2 ?d43 ?d44 ?_ ?_
   case d43 => exact (me_var (pvk 0 q93))
   case' d44 => apply me_op op_sub fm_sub ?_ me_int
   case d44 => exact (me_var (pvk 1 q96))
   case' d39 => apply me_cal ?d46 ?_ ?d47 ?d48 ?_ ?_
   case d46 => exact C__law_test
   case d47 => exact q99
   case' d48 => apply ma_2 ?d49 ?d50 ?_ ?_
   case d49 => exact (me_var (pvk 0 q93))
   case' d50 => apply me_op op_sub fm_sub ?_ me_int
   case d50 => exact (me_var (pvk 1 q96))
   case' d33 => apply mss_one ?_
   case' d33 => apply ms_ret ?_
   case' d33 => apply me_ix (ix_M (hu151 hr)) fm_ix ?d54 ?d55 ?_
   case' d54 => apply me_lst ?_
   case' d54 => apply ma_3 ?d57 ?d58 ?d59 ?_ ?_ ?_
   case' d57 => apply me_tup ?_
   case' d57 => apply ma_3 me_str ?d61 ?d62 ?_ ?_ ?_
   case d61 => exact (me_var (pvk 4 q97))
   case d62 => exact (me_var (pvk 5 q98))
   case' d58 => apply me_tup ?_
   case' d58 => apply ma_3 me_str ?d64 ?d65 ?_ ?_ ?_
   case d64 => exact (me_var (pvk 4 q97))
   case d65 => exact (me_var (pvk 5 q98))
   case' d59 => apply me_tup ?_
   case' d59 => apply ma_2 me_str ?d67 ?_ ?_
   case d67 => exact (me_var (pvk 4 q97))
   case' d55 => apply me_op op_sub fm_sub ?_ me_int
   case d55 => exact (me_var (pvk 2 q95))
   case' d23 => apply mss_cons ?d69 ?d70
   case' d69 => apply ms_set (i := 6) ?d71 ?_ ?d72 ?d73 ?_ ?_
   case d71 => exact sc__law_test.nd
   case d72 => exact (Or.inl q91.lk)
   case' d73 => apply me_lst ?_
   case' d73 => apply ma_3 ?d75 ?d76 ?d77 ?_ ?_ ?_
   case' d75 => apply me_tup ?_
   case' d75 => apply ma_2 me_str ?d79 ?_ ?_
   case d79 => exact (me_var (pvk 3 q92))
   case' d76 => apply me_tup ?_
   case' d76 => apply ma_3 me_str ?d81 ?d82 ?_ ?_ ?_
   case d81 => exact (me_var (pvk 3 q92))
   case' d82 => apply me_cal ?d83 ?_ ?d84 ?d85 ?_ ?_
   case d83 => exact C__law_value
   case d84 => exact q94
   case' d85 => apply ma_1 ?d86 ?_
   case d86 => exact (me_var (pvk 0 q93))
   case' d77 => apply me_tup ?_
   case' d77 => apply ma_3 me_str ?d88 ?d89 ?_ ?_ ?_
   case d88 => exact (me_var (pvk 3 q92))
   case' d89 => apply me_cal ?d90 ?_ ?d91 ?d92 ?_ ?_
   case d90 => exact C__law_value
   case d91 => exact q94
   case' d92 => apply ma_1 ?d93 ?_
   case d93 => exact (me_var (pvk 0 q93))
   case' d70 => apply mss_one ?_
   case' d70 => apply ms_ret ?_
   case' d70 => apply me_ix (ix_M (hu151 hr)) fm_ix ?d96 ?d97 ?_
   case' d96 => apply me_op op_addM fm_add ?d98 ?d99
   case' d98 => apply me_op op_addM fm_add ?d100 ?d101
   case d100 => exact (me_var (pvk 6 q91))
   case' d101 => apply me_lst ?_
   case' d101 => apply ma_1 ?d103 ?_
   case' d103 => apply me_tup ?_
   case' d103 => apply ma_3 me_str ?d105 ?d106 ?_ ?_ ?_
   case d105 => exact (me_var (pvk 3 q92))
   case' d106 => apply me_cal ?d107 ?_ ?d108 ?d109 ?_ ?_
   case d107 => exact C__law_value
   case d108 => exact q94
   case' d109 => apply ma_1 ?d110 ?_
   case d110 => exact (me_var (pvk 0 q93))
   case' d99 => apply me_op op_mulM fm_mul ?_ me_int
   case' d99 => apply me_lst ?_
   case' d99 => apply ma_1 ?d113 ?_
   case' d113 => apply me_tup ?_
   case' d113 => apply ma_1 me_str ?_
   case d97 => exact (me_var (pvk 2 q95))
   all_goals (try walk_at "late")
theorem ok__law_way (T : Txt K mg t) (n : Nat) : FnOk P w K mg base CX0 (n + 1) t.f__law_way t.d__law_way ["_law_box_here", "_law_deep"] (spM K (m__law_way n)) := by
 induction n with
 | zero => exact FnOk.empty
 | succ n ih =>
   have C__law_take := Cal.of (ok__law_take (P := P) (w := w) (base := base) T) T.m__law_take T.F__law_take.kp T.b__law_take
   have C__law_way := Cal.of ih T.m__law_way T.F__law_way.kp T.b__law_way
   refine FnOk.mono (j := n + 1 + 1) (T.F__law_way.okM (k := n + 1) sc__law_way rfl fun cdv A outer s H E hr => ?_) (by omega)
   unfold b__law_way
   conv => arg 2; whnf
   apply mss_cons ?d1 ?d2
   case' d1 => apply ms_set (i := 2) ?d3 ?_ ?d4 ?d5 ?_ ?_
   case d3 => exact sc__law_way.nd
   case d4 => exact (Or.inl q101.lk)
   case' d5 => apply me_cal ?d6 ?_ ?d7 ?d8 ?_ ?_
   case d6 => exact C__law_take
   case d7 => exact q105
   case' d8 => apply ma_2 ?d9 me_int ?_ ?_
   case d9 => exact (me_var (pvk 0 q102))
   case' d2 => apply mss_cons ?d10 ?d11
   case' d10 => apply ms_if ?d12 ?d13 mss_nil
   case' d12 => apply PW.pt ?_
   case' d12 => apply mw_or ?d15 ?d16
   case' d15 => apply mt_cmp op_leA fm_le ?d17 me_int ?_
   case d17 => exact (me_var (pvk 1 q103))
   case' d16 => apply mw_or1 ?_
   case' d16 => apply mt_cmp op_ltA fm_lt ?d19 me_int ?_
   case d19 => exact (me_var (pvk 2 q101))
   case' d13 => apply mss_cons ?d20 ?d21
   case' d20 => apply ms_set (i := 3) ?d22 ?_ ?d23 ?d24 ?_ ?_
   case d22 => exact sc__law_way.nd
   case d23 => exact (Or.inl q107.lk)
   case' d24 => apply me_ix (ix_M (hu151 hr)) fm_ix ?d25 ?d26 ?_
   case' d25 => apply me_lst ?_
   case' d25 => apply ma_3 me_str me_str me_str ?_ ?_ ?_
   case' d26 => apply me_cal ?d28 ?_ ?d29 ?d30 ?_ ?_
   case d28 => exact C__law_take
   case d29 => exact q105
   case' d30 => apply ma_2 ?d31 me_int ?_ ?_
   case d31 => exact (me_var (pvk 0 q102))
   case' d21 => apply mss_one ?_
   case' d21 => apply ms_ret ?_
   case' d21 => apply me_tup ?_
   case' d21 => apply ma_3 me_str ?d35 ?d36 ?_ ?_ ?_
   case' d35 => apply me_ix (ix_M (hu151 hr)) fm_ix ?d37 ?d38 ?_
   case' d37 => apply me_lst ?_
   case' d37 => apply ma_4 me_str me_str me_str me_non ?_ ?_ ?_ ?_
   case' d38 => apply me_cal ?d40 ?_ ?d41 ?d42 ?_ ?_
   case d40 => exact C__law_take
   case d41 => exact q105
   case' d42 => apply ma_2 ?d43 me_int ?_ ?_
   case d43 => exact (me_var (pvk 0 q102))
   case d36 => exact (me_var (pvk 3 q107))
   case' d11 => apply mss_cons ?d44 ?d45
   case' d44 => apply ms_if ?d46 ?d47 mss_nil
   case' d46 => apply mt_cmp op_ltA fm_lt ?d48 me_int ?_
   case d48 => exact (me_var (pvk 2 q101))
   case' d47 => apply mss_one ?_
   case' d47 => apply ms_ret ?_
   case' d47 => apply me_tup ?_
   case' d47 => apply ma_2 me_str ?d52 ?_ ?_
   case' d52 => apply me_cal ?d53 ?_ ?d54 ?d55 ?_ ?_
   case d53 => exact C__law_way
   case d54 => exact q104
   case' d55 => apply ma_2 ?d56 ?d57 ?_ ?_
   case d56 => exact (me_var (pvk 0 q102))
   case' d57 => apply me_op op_sub fm_sub ?_ me_int
   case d57 => exact (me_var (pvk 1 q103))
   case' d45 => apply mss_cons ?d59 ?d60
   case' d59 => apply ms_if ?d61 ?d62 mss_nil
   case' d61 => apply mt_cmp ?d63 fm_eq ?d64 me_int ?_
   case d63 => exact (op_eqK (hu150 hr))
   case d64 => exact (me_var (pvk 2 q101))
   case' d62 => apply mss_cons ?d65 ?d66
   case' d65 => apply ms_set (i := 4) ?d67 ?_ ?d68 ?d69 ?_ ?_
   case d67 => exact sc__law_way.nd
   case d68 => exact (Or.inl q106.lk)
   case' d69 => apply me_cal ?d70 ?_ ?d71 ?d72 ?_ ?_
   case d70 => exact C__law_take
   case d71 => exact q105
   case' d72 => apply ma_2 ?d73 me_int ?_ ?_
   case d73 => exact (me_var (pvk 0 q102))
   case' d66 => apply mss_one ?_
   case' d66 => apply ms_ret ?_
   case' d66 => apply me_tup ?_
   case' d66 => apply ma_4 me_str ?d77 ?d78 ?d79 ?_ ?_ ?_ ?_
   case' d77 => apply me_cal ?d80 ?_ ?d81 ?d82 ?_ ?_
   case d80 => exact C__law_way
   case d81 => exact q104
   case' d82 => apply ma_2 ?d83 ?d84 ?_ ?_
   case d83 => exact (me_var (pvk 0 q102))
   case' d84 => apply me_op op_sub fm_sub ?_ me_int
   case d84 => exact (me_var (pvk 1 q103))
   case d78 => exact (me_var (pvk 4 q106))
   case' d79 => apply me_op op_addM fm_add ?d86 ?d87
   case d86 => exact (me_var (pvk 4 q106))
   case' d87 => apply me_cal ?d88 ?_ ?d89 ?d90 ?_ ?_
   case d88 => exact C__law_take
   case d89 => exact q105
   case' d90 => apply ma_2 ?d91 me_int ?_ ?_
   case d91 => exact (me_var (pvk 0 q102))
   case' d60 => apply mss_cons ?d92 ?d93
   case' d92 => apply ms_if ?d94 ?d95 mss_nil
   case' d94 => apply mt_cmp ?d96 fm_eq ?d97 me_int ?_
   case d96 => exact (op_eqK (hu150 hr))
   case d97 => exact (me_var (pvk 2 q101))
   case' d95 => apply mss_one ?_
   case' d95 => apply ms_ret ?_
   case' d95 => apply me_ix (ix_M (hu151 hr)) fm_ix ?d100 ?d101 ?_
   case' d100 => apply me_lst ?_
   case' d100 => apply ma_2 ?d103 ?d104 ?_ ?_
   case' d103 => apply me_tup ?_
   case' d103 => apply ma_1 me_str ?_
   case' d104 => apply me_tup ?_
   case' d104 => apply ma_2 me_str ?d107 ?_ ?_
   case' d107 => apply me_cal ?d108 ?_ ?d109 ?d110 ?_ ?_
   case d108 => exact C__law_way
   case d109 => exact q104
   case' d110 => apply ma_2 ?d111 ?d112 ?_ ?_
   case d111 => exact (me_var (pvk 0 q102))
   case' d112 => apply me_op op_sub fm_sub ?_ me_int
   case d112 => exact (me_var (pvk 1 q103))
   case' d101 => apply me_cal ?d114 ?_ ?d115 ?d116 ?_ ?_
   case d114 => exact C__law_take
   case d115 => exact q105
   case' d116 => apply ma_2 ?d117 me_int ?_ ?_
   case d117 => exact (me_var (pvk 0 q102))
   case' d93 => apply mss_one ?_
   case' d93 => apply ms_ret ?_
   case' d93 => apply me_tup ?_
   case' d93 => apply ma_3 ?d121 ?d122 ?d123 ?_ ?_ ?_
   case' d121 => apply me_ix (ix_M (hu151 hr)) fm_ix ?d124 ?d125 ?_
   case' d124 => apply me_lst ?_
   case' d124 => apply ma_2 me_str me_str ?_ ?_
   case' d125 => apply me_op op_sub fm_sub ?_ me_int
   case d125 => exact (me_var (pvk 2 q101))
   case' d122 => apply me_cal ?d128 ?_ ?d129 ?d130 ?_ ?_
   case d128 => exact C__law_way
   case d129 => exact q104
   case' d130 => apply ma_2 ?d131 ?d132 ?_ ?_
   case d131 => exact (me_var (pvk 0 q102))
   case' d132 => apply me_op op_sub fm_sub ?_ me_int
   case d132 => exact (me_var (pvk 1 q103))
   case' d123 => apply me_cal ?d134 ?_ ?d135 ?d136 ?_ ?_
   case d134 => exact C__law_way
   case d135 => exact q104
   case' d136 => apply ma_2 ?d137 ?d138 ?_ ?_
   case d137 => exact (me_var (pvk 0 q102))
   case' d138 => apply me_op op_sub fm_sub ?_ me_int
   case d138 => exact (me_var (pvk 1 q103))
   all_goals (try walk_at "late")
theorem ok__law_bows (T : Txt K mg t) : FnOk P w K mg base CX0 10 t.f__law_bows t.d__law_bows ["_law_box_here", "_law_many", "_law_deep"] (spM K m__law_bows) := by
 have C__law_take := Cal.of (ok__law_take (P := P) (w := w) (base := base) T) T.m__law_take T.F__law_take.kp T.b__law_take
 have C__law_way := Cal.of (ok__law_way (P := P) (w := w) (base := base) T 8) T.m__law_way T.F__law_way.kp T.b__law_way
 have z : FnOk P w K mg base CX0 10 t.f__law_bows t.d__law_bows ["_law_box_here", "_law_many", "_law_deep"] (spM K (mFun 3 3 b__law_bows)) := by
  refine T.F__law_bows.okM (k := 9) sc__law_bows rfl fun cdv A outer s H E hr => ?_
  unfold b__law_bows
  conv => arg 2; whnf
  apply mss_cons ?d1 ?d2
  case' d1 => apply ms_set (i := 3) ?d3 ?_ ?d4 ?d5 ?_ ?_
  case d3 => exact sc__law_bows.nd
  case d4 => exact (Or.inl q108.lk)
  case' d5 => apply me_lstH ma_nil
  case' d2 => apply mss_cons ?d6 ?d7
  case' d6 => apply ms_for ?_ ?_ ?d8 ?d9 ?d10 ?_
  case' d8 => apply mi_range1 ?d11 ?d12 ?d13 ?_
  case d11 => exact q112.lk
  case d12 => exact T.z_range
  case' d13 => apply ma_1 ?d14 ?_
  case' d14 => apply me_ix (ix_M (hu151 hr)) fm_ix ?d15 ?d16 ?_
  case' d15 => apply me_lst ?_
  case' d15 => apply ma_c4 me_int me_int me_int me_int ?d18 ?_ ?_ ?_ ?_
  case' d18 => apply ma_2 me_int me_int ?_ ?_
  case' d16 => apply me_cal ?d19 ?_ ?d20 ?d21 ?_ ?_
  case d19 => exact C__law_take
  case d20 => exact q111
  case' d21 => apply ma_2 ?d22 me_int ?_ ?_
  case d22 => exact (me_var (pvk 0 q110))
  case' d9 => apply mg_name ?_
  case' d9 => apply pg_name (i := 4) ?d24 ?_ ?d25 ?_
  case d24 => exact sc__law_bows.nd
  case d25 => exact (Or.inl q113.lk)
  case' d10 => apply mss_cons ?d26 ?d27
  case' d26 => apply ms_set (i := 5) ?d28 ?_ ?d29 ?d30 ?_ ?_
  case d28 => exact sc__law_bows.nd
  case d29 => exact (Or.inl q115.lk)
  case' d30 => apply me_ix (ix_M (hu151 hr)) fm_ix ?d31 ?d32 ?_
  case' d31 => apply me_lst ?_
  case' d31 => apply ma_c4 me_str me_str me_str me_str ?d34 ?_ ?_ ?_ ?_
  case' d34 => apply ma_1 me_str ?_
  case' d32 => apply me_cal ?d35 ?_ ?d36 ?d37 ?_ ?_
  case d35 => exact C__law_take
  case d36 => exact q111
  case' d37 => apply ma_2 ?d38 me_int ?_ ?_
  case d38 => exact (me_var (pvk 0 q110))
  case' d27 => apply mss_one ?_
  case' d27 => apply ms_expr ?d40 ?_
  case' d40 => apply me_bm PySem.F.plainAttrs_list PySem.F.slot_list_append PySem.F.type_list_append ?d41 ?d42 fm_append ?d43 ?d44 ?_ ?_ ?_ ?_ ?_
  case d41 => exact mt_append
  case d42 => exact (fun _ _ _ _ _ => isL_ty)
  case d43 => exact (me_var (pvk 3 q108))
  case' d44 => apply ma_1 ?d45 ?_
  case' d45 => apply me_tup ?_
  case' d45 => apply ma_4 ?d47 ?d48 ?d49 ?d50 ?_ ?_ ?_ ?_
  case' d47 => apply me_cal ?d51 ?_ ?d52 ?d53 ?_ ?_
  case d51 => exact C__law_take
  case d52 => exact q111
  case' d53 => apply ma_2 ?d54 ?d55 ?_ ?_
  case d54 => exact (me_var (pvk 0 q110))
  case d55 => exact (me_var (pvk 1 q114))
  case' d48 => apply me_cal ?d56 ?_ ?d57 ?d58 ?_ ?_
  case d56 => exact C__law_take
  case d57 => exact q111
  case' d58 => apply ma_2 ?d59 ?d60 ?_ ?_
  case d59 => exact (me_var (pvk 0 q110))
  case d60 => exact (me_var (pvk 1 q114))
  case d49 => exact (me_var (pvk 5 q115))
  case' d50 => apply me_cal ?d61 ?_ ?d62 ?d63 ?_ ?_
  case d61 => exact C__law_way
  case d62 => exact q117
  case' d63 => apply ma_2 ?d64 ?d65 ?_ ?_
  case d64 => exact (me_var (pvk 0 q110))
  case d65 => exact (me_var (pvk 2 q116))
  case' d7 => apply mss_one ?_
  case' d7 => apply ms_ret ?_
  case' d7 => apply me_CTy call_tuple_of fm_tuple ?d68 ?d69 ?_ ?d70 ?_ ?_
  case d68 => exact q109
  case d69 => exact T.z_tuple
  case' d70 => apply ma_1 ?d71 ?_
  case d71 => exact (me_var (pvk 3 q108))
  all_goals (try walk_at "late")
 exact z.imp fun _ _ _ _ q => spM_seal q
theorem ok__law_pairs (T : Txt K mg t) : FnOk P w K mg base CX0 2 t.f__law_pairs t.d__law_pairs ["_law_box_here", "_law_many"] (spM K m__law_pairs) := by
 have C__law_take := Cal.of (ok__law_take (P := P) (w := w) (base := base) T) T.m__law_take T.F__law_take.kp T.b__law_take
 have z : FnOk P w K mg base CX0 2 t.f__law_pairs t.d__law_pairs ["_law_box_here", "_law_many"] (spM K (mFun 2 6 b__law_pairs)) := by
  refine T.F__law_pairs.okM (k := 1) sc__law_pairs rfl fun cdv A outer s H E hr => ?_
  unfold b__law_pairs
  conv => arg 2; whnf
  apply mss_cons ?d1 ?d2
  case' d1 => apply ms_set (i := 2) ?d3 ?_ ?d4 ?d5 ?_ ?_
  case d3 => exact sc__law_pairs.nd
  case d4 => exact (Or.inl q118.lk)
  case' d5 => apply me_lstH ma_nil
  case' d2 => apply mss_cons ?d6 ?d7
  case' d6 => apply ms_for ?_ ?_ ?d8 ?d9 ?d10 ?_
  case' d8 => apply mi_range1 ?d11 ?d12 ?d13 ?_
  case d11 => exact q122.lk
  case d12 => exact T.z_range
  case' d13 => apply ma_1 ?d14 ?_
  case' d14 => apply me_ix (ix_M (hu151 hr)) fm_ix ?d15 ?d16 ?_
  case' d15 => apply me_lst ?_
  case' d15 => apply ma_c4 me_int me_int me_int me_int ?d18 ?_ ?_ ?_ ?_
  case' d18 => apply ma_2 me_int me_int ?_ ?_
  case' d16 => apply me_cal ?d19 ?_ ?d20 ?d21 ?_ ?_
  case d19 => exact C__law_take
  case d20 => exact q121
  case' d21 => apply ma_2 ?d22 me_int ?_ ?_
  case d22 => exact (me_var (pvk 0 q120))
  case' d9 => apply mg_name ?_
  case' d9 => apply pg_name (i := 3) ?d24 ?_ ?d25 ?_
  case d24 => exact sc__law_pairs.nd
  case d25 => exact (Or.inl q123.lk)
  case' d10 => apply mss_cons ?d26 ?d27
  case' d26 => apply ms_par (i := 4) (j := 5) ?_ ?d28 ?_ ?_ ?_ ?d29 ?d30 ?d31 ?_ ?_
  case d28 => exact sc__law_pairs.nd
  case d29 => exact q125.lk
  case d30 => exact q126.lk
  case' d31 => apply ma_2 ?d32 ?d33 ?_ ?_
  case' d32 => apply me_cal ?d34 ?_ ?d35 ?d36 ?_ ?_
  case d34 => exact C__law_take
  case d35 => exact q121
  case' d36 => apply ma_2 ?d37 ?d38 ?_ ?_
  case d37 => exact (me_var (pvk 0 q120))
  case d38 => exact (me_var (pvk 1 q128))
  case' d33 => apply me_cal ?d39 ?_ ?d40 ?d41 ?_ ?_
  case d39 => exact C__law_take
  case d40 => exact q121
  case' d41 => apply ma_2 ?d42 ?d43 ?_ ?_
  case d42 => exact (me_var (pvk 0 q120))
  case d43 => exact (me_var (pvk 1 q128))
  case' d27 => apply mss_cons ?d44 ?d45
  case' d44 => apply ms_setC (k := 6) ?d46 ?_ ?d47 (N' := ["_law_turn", "_law_box_here"]) (ix := [none, some 0]) ?d48 ?_ ?d49 ?d50 ?d51 ?d52 ?d53 ?_ ?_
  case d46 => exact sc__law_pairs.nd
  case d47 => exact q127.lk
  case d48 => exact ⟨rfl, by decide +kernel, by decide +kernel, comp_free _ _ rfl, rfl, comp_ix _ _ _ _ rfl⟩
  case' d49 => apply cg_name ?_
  case' d50 => apply mi_range1 ?d54 ?d55 ?d56 ?_
  case d54 => exact q122.lk
  case d55 => exact T.z_range
  case' d56 => apply ma_1 me_int ?_
  case d51 => (intro _ _ _ _; exact (pgo (i := 0) (by decide +kernel) (show List.Nodup (["_law_turn", "_law_box_here"] : List Str) from by decide +kernel) (by rfl)))
  case d52 => (intro _ _ _ _; exact mts_nil)
  case' d53 => (intro _ _ _ _; apply me_ix (ix_M (hu151 hr)) fm_ix ?d57 ?d58 ?_)
  case' d57 => apply me_lst ?_
  case' d57 => apply ma_c4 me_str me_str me_str me_str ?d60 ?_ ?_ ?_ ?_
  case' d60 => apply ma_2 me_str me_str ?_ ?_
  case' d58 => apply me_cal ?d61 ?_ ?d62 ?d63 ?_ ?_
  case d61 => exact C__law_take
  case d62 => exact (NmOk.glob (by decide +kernel))
  case' d63 => apply ma_2 ?d64 me_int ?_ ?_
  case d64 => exact (me_var (pvf 1 (by decide +kernel)))
  case' d45 => apply mss_cons ?d65 ?d66
  case' d65 => apply ms_set (i := 7) ?d67 ?_ ?d68 ?d69 ?_ ?_
  case d67 => exact sc__law_pairs.nd
  case d68 => exact (Or.inl q124.lk)
  case' d69 => apply me_lst ?_
  case' d69 => apply ma_3 ?d71 ?d72 ?d73 ?_ ?_ ?_
  case' d71 => apply me_tup ?_
  case' d71 => apply ma_3 me_str ?d75 ?d76 ?_ ?_ ?_
  case d75 => exact (me_var (pvk 4 q125))
  case d76 => exact (me_var (pvk 5 q126))
  case' d72 => apply me_tup ?_
  case' d72 => apply ma_c4 me_str ?d78 ?d79 ?d80 ?d81 ?_ ?_ ?_ ?_
  case d78 => exact (me_var (pvk 4 q125))
  case' d79 => apply me_ix (ix_M (hu151 hr)) fm_ix ?d82 me_int ?_
  case d82 => exact (me_var (pvk 6 q127))
  case d80 => exact (me_var (pvk 5 q126))
  case' d81 => apply ma_1 ?d83 ?_
  case' d83 => apply me_ix (ix_M (hu151 hr)) fm_ix ?d84 me_int ?_
  case d84 => exact (me_var (pvk 6 q127))
  case' d73 => apply me_tup ?_
  case' d73 => apply ma_c4 me_str ?d86 ?d87 ?d88 ?d89 ?_ ?_ ?_ ?_
  case d86 => exact (me_var (pvk 4 q125))
  case' d87 => apply me_ix (ix_M (hu151 hr)) fm_ix ?d90 me_int ?_
  case d90 => exact (me_var (pvk 6 q127))
  case d88 => exact (me_var (pvk 5 q126))
  case' d89 => apply ma_1 ?d91 ?_
  case' d91 => apply me_ix (ix_M (hu151 hr)) fm_ix ?d92 me_int ?_
  case d92 => exact (me_var (pvk 6 q127))
  case' d66 => apply mss_one ?_
  case' d66 => apply ms_expr ?d94 ?_
  case' d94 => apply me_bm PySem.F.plainAttrs_list PySem.F.slot_list_append PySem.F.type_list_append ?d95 ?d96 fm_append ?d97 ?d98 ?_ ?_ ?_ ?_ ?_
  case d95 => exact mt_append
  case d96 => exact (fun _ _ _ _ _ => isL_ty)
  case d97 => exact (me_var (pvk 2 q118))
  case' d98 => apply ma_1 ?d99 ?_
  case' d99 => apply me_ix (ix_M (hu151 hr)) fm_ix ?d100 ?d101 ?_
  case d100 => exact (me_var (pvk 7 q124))
  case' d101 => apply me_cal ?d102 ?_ ?d103 ?d104 ?_ ?_
  case d102 => exact C__law_take
  case d103 => exact q121
  case' d104 => apply ma_2 ?d105 me_int ?_ ?_
  case d105 => exact (me_var (pvk 0 q120))
  case' d7 => apply mss_one ?_
  case' d7 => apply ms_ret ?_
  case' d7 => apply me_CTy call_tuple_of fm_tuple ?d108 ?d109 ?_ ?d110 ?_ ?_
  case d108 => exact q119
  case d109 => exact T.z_tuple
  case' d110 => apply ma_1 ?d111 ?_
  case d111 => exact (me_var (pvk 2 q118))
  all_goals (try walk_at "late")
 exact z.imp fun _ _ _ _ q => spM_seal q
theorem ok__law_spots (T : Txt K mg t) : FnOk P w K mg base CX0 7 t.f__law_spots t.d__law_spots ["_law_box_here", "_law_many"] (spM K m__law_spots) := by
 have C__law_take := Cal.of (ok__law_take (P := P) (w := w) (base := base) T) T.m__law_take T.F__law_take.kp T.b__law_take
 have C__law_test := Cal.of (ok__law_test (P := P) (w := w) (base := base) T 4) T.m__law_test T.F__law_test.kp T.b__law_test
 have z : FnOk P w K mg base CX0 7 t.f__law_spots t.d__law_spots ["_law_box_here", "_law_many"] (spM K (mFun 2 5 b__law_spots)) := by
  refine T.F__law_spots.okM (k := 6) sc__law_spots rfl fun cdv A outer s H E hr => ?_
  unfold b__law_spots
  conv => arg 2; whnf
  apply mss_cons ?d1 ?d2
  case' d1 => apply ms_set (i := 2) ?d3 ?_ ?d4 ?d5 ?_ ?_
  case d3 => exact sc__law_spots.nd
  case d4 => exact (Or.inl q129.lk)
  case' d5 => apply me_lstH ma_nil
  case' d2 => apply mss_cons ?d6 ?d7
  case' d6 => apply ms_set (i := 3) ?d8 ?_ ?d9 ?d10 ?_ ?_
  case d8 => exact sc__law_spots.nd
  case d9 => exact (Or.inl q138.lk)
  case' d10 => apply me_cal ?d11 ?_ ?d12 ?d13 ?_ ?_
  case d11 => exact C__law_take
  case d12 => exact q137
  case' d13 => apply ma_2 ?d14 me_int ?_ ?_
  case d14 => exact (me_var (pvk 0 q136))
  case' d7 => apply mss_cons ?d15 ?d16
  case' d15 => apply ms_for ?_ ?_ ?d17 ?d18 ?d19 ?_
  case' d17 => apply mi_range1 ?d20 ?d21 ?d22 ?_
  case d20 => exact q132.lk
  case d21 => exact T.z_range
  case' d22 => apply ma_1 ?d23 ?_
  case d23 => exact (me_var (pvk 1 q131))
  case' d18 => apply mg_name ?_
  case' d18 => apply pg_name (i := 4) ?d25 ?_ ?d26 ?_
  case d25 => exact sc__law_spots.nd
  case d26 => exact (Or.inl q133.lk)
  case' d19 => apply mss_cons ?d27 ?d28
  case' d27 => apply ms_set (i := 5) ?d29 ?_ ?d30 ?d31 ?_ ?_
  case d29 => exact sc__law_spots.nd
  case d30 => exact (Or.inl q134.lk)
  case' d31 => apply me_ix (ix_M (hu151 hr)) fm_ix ?d32 ?d33 ?_
  case' d32 => apply me_lst ?_
  case' d32 => apply ma_c4 me_non me_non me_str me_str ?d35 ?_ ?_ ?_ ?_
  case' d35 => apply ma_1 me_str ?_
  case' d33 => apply me_cal ?d36 ?_ ?d37 ?d38 ?_ ?_
  case d36 => exact C__law_take
  case d37 => exact q137
  case' d38 => apply ma_2 ?d39 me_int ?_ ?_
  case d39 => exact (me_var (pvk 0 q136))
  case' d28 => apply mss_cons ?d40 ?d41
  case' d40 => apply ms_set (i := 6) ?d42 ?_ ?d43 ?d44 ?_ ?_
  case d42 => exact sc__law_spots.nd
  case d43 => exact (Or.inl q135.lk)
  case' d44 => apply me_cal ?d45 ?_ ?d46 ?d47 ?_ ?_
  case d45 => exact C__law_test
  case d46 => exact q139
  case' d47 => apply ma_2 ?d48 ?d49 ?_ ?_
  case d48 => exact (me_var (pvk 0 q136))
  case' d49 => apply me_op op_sub fm_sub me_int ?_
  case' d49 => apply me_cal ?d51 ?_ ?d52 ?d53 ?_ ?_
  case d51 => exact C__law_take
  case d52 => exact q137
  case' d53 => apply ma_2 ?d54 me_int ?_ ?_
  case d54 => exact (me_var (pvk 0 q136))
  case' d41 => apply mss_cons ?d55 ?d56
  case' d55 => apply ms_if ?d57 ?d58 mss_nil
  case' d57 => apply PW.pt ?_
  case' d57 => apply mw_and ?d60 ?d61
  case' d60 => apply mt_cmp op_gtA fm_gt ?d62 me_int ?_
  case d62 => exact (me_var (pvk 3 q138))
  case' d61 => apply mw_and1 ?_
  case' d61 => apply mt_cmp op_gtA fm_gt ?d64 me_int ?_
  case' d64 => apply me_cal ?d65 ?_ ?d66 ?d67 ?_ ?_
  case d65 => exact C__law_take
  case d66 => exact q137
  case' d67 => apply ma_2 ?d68 me_int ?_ ?_
  case d68 => exact (me_var (pvk 0 q136))
  case' d58 => apply mss_one ?_
  case' d58 => apply ms_asg ?d70 ?d71 ?_ ?_ ?_
  case' d70 => apply me_tup ?_
  case' d70 => apply ma_2 me_non ?d73 ?_ ?_
  case' d73 => apply me_tup ?_
  case' d73 => apply ma_1 me_str ?_
  case' d71 => apply mg_tup ?_ ?d75 ?_ ?_
  case' d75 => apply mgs_cons ?d76 ?d77 ?_
  case' d76 => apply mg_name ?_
  case' d76 => apply pg_name (i := 5) ?d79 ?_ ?d80 ?_
  case d79 => exact sc__law_spots.nd
  case d80 => exact (Or.inl q134.lk)
  case' d77 => apply mgs_cons ?d81 mgs_nil ?_
  case' d81 => apply mg_name ?_
  case' d81 => apply pg_name (i := 6) ?d83 ?_ ?d84 ?_
  case d83 => exact sc__law_spots.nd
  case d84 => exact (Or.inl q135.lk)
  case' d56 => apply mss_one ?_
  case' d56 => apply ms_expr ?d86 ?_
  case' d86 => apply me_bm PySem.F.plainAttrs_list PySem.F.slot_list_append PySem.F.type_list_append ?d87 ?d88 fm_append ?d89 ?d90 ?_ ?_ ?_ ?_ ?_
  case d87 => exact mt_append
  case d88 => exact (fun _ _ _ _ _ => isL_ty)
  case d89 => exact (me_var (pvk 2 q129))
  case' d90 => apply ma_1 ?d91 ?_
  case' d91 => apply me_tup ?_
  case' d91 => apply ma_2 ?d93 ?d94 ?_ ?_
  case d93 => exact (me_var (pvk 5 q134))
  case d94 => exact (me_var (pvk 6 q135))
  case' d16 => apply mss_one ?_
  case' d16 => apply ms_ret ?_
  case' d16 => apply me_CTy call_tuple_of fm_tuple ?d97 ?d98 ?_ ?d99 ?_ ?_
  case d97 => exact q130
  case d98 => exact T.z_tuple
  case' d99 => apply ma_1 ?d100 ?_
  case d100 => exact (me_var (pvk 2 q129))
  all_goals (try walk_at "late")
 exact z.imp fun _ _ _ _ q => spM_seal q
theorem ok__law_number (T : Txt K mg t) : FnOk P w K mg base CX0 1 t.f__law_number t.d__law_number ["_law_thing"] (spM K m__law_number) := by
 refine T.F__law_number.okM (k := 0) sc__law_number rfl fun cdv A outer s H E hr => ?_
 unfold b__law_number
 conv => arg 2; whnf
 apply mss_one ?_
 apply ms_ret ?_
 apply me_and ?d3 ?d4
 case' d3 => apply me_CB call_instM fm_inst ?d5 ?d6 PyProof.Rows.boot_isinstance ?d7 ?_ ?_
 case d5 => exact q142
 case d6 => exact T.z_isinstance
 case' d7 => apply ma_2 ?d8 ?d9 ?_ ?_
 case d8 => exact (me_var (pvk 0 q140))
 case' d9 => apply me_C ?d10 ?_
 case' d10 => apply pe_bltnk (v := .ty "int") ?d11 ?d12 ?_ ?_
 case d11 => exact q143
 case d12 => exact T.z_int
 case' d4 => apply me_one ?_
 case' d4 => apply me_not ?_
 case' d4 => apply me_CB call_instM fm_inst ?d15 ?d16 PyProof.Rows.boot_isinstance ?d17 ?_ ?_
 case d15 => exact q142
 case d16 => exact T.z_isinstance
 case' d17 => apply ma_2 ?d18 ?d19 ?_ ?_
 case d18 => exact (me_var (pvk 0 q140))
 case' d19 => apply me_C ?d20 ?_
 case' d20 => apply pe_bltnk (v := .ty "bool") ?d21 ?d22 ?_ ?_
 case d21 => exact q141
 case d22 => exact T.z_bool
 all_goals (try walk_at "late")
theorem ok__law_name (T : Txt K mg t) : FnOk P w K mg base CX0 1 t.f__law_name t.d__law_name ["_law_thing"] (spM K m__law_name) := by
 refine T.F__law_name.okM (k := 0) sc__law_name rfl fun cdv A outer s H E hr => ?_
 unfold b__law_name
 conv => arg 2; whnf
 apply mss_cons ?d1 ?d2
 case' d1 => apply ms_if ?d3 ?d4 mss_nil
 case' d3 => apply PW.pt ?_
 case' d3 => apply mw_or ?d6 ?d7
 case' d6 => apply mt_not ?_
 case' d6 => apply mt_val ?d9 ?_
 case' d9 => apply me_CB call_instM fm_inst ?d10 ?d11 PyProof.Rows.boot_isinstance ?d12 ?_ ?_
 case d10 => exact q148
 case d11 => exact T.z_isinstance
 case' d12 => apply ma_2 ?d13 ?d14 ?_ ?_
 case d13 => exact (me_var (pvk 0 q144))
 case' d14 => apply me_C ?d15 ?_
 case' d15 => apply pe_bltnk (v := .ty "str") ?d16 ?d17 ?_ ?_
 case d16 => exact q147
 case d17 => exact T.z_str
 case' d7 => apply mw_or ?d18 ?d19
 case' d18 => apply mt_cmp op_ltA fm_lt ?d20 me_int ?_
 case' d20 => apply me_CB call_lenM fm_len ?d21 ?d22 PySem.boot_len ?d23 ?_ ?_
 case d21 => exact q146
 case d22 => exact T.z_len
 case' d23 => apply ma_1 ?d24 ?_
 case d24 => exact (me_var (pvk 0 q144))
 case' d19 => apply mw_or1 ?_
 case' d19 => apply mt_cmp op_gtA fm_gt ?d26 me_int ?_
 case' d26 => apply me_CB call_lenM fm_len ?d27 ?d28 PySem.boot_len ?d29 ?_ ?_
 case d27 => exact q146
 case d28 => exact T.z_len
 case' d29 => apply ma_1 ?d30 ?_
 case d30 => exact (me_var (pvk 0 q144))
 case' d4 => apply mss_one ?_
 case' d4 => apply ms_ret me_bl
 case' d2 => apply mss_one ?_
 case' d2 => apply ms_ret ?_
 case' d2 => apply me_CB ?d34 fm_all ?d35 ?d36 PyProof.Rows.boot_all ?d37 ?_ ?_
 case d34 => exact (call_all rfl)
 case d35 => exact q145
 case d36 => exact T.z_all
 case' d37 => apply ma_1 ?d38 ?_
 case' d38 => apply me_comp (N' := ["_law_sign"]) (ix := [none]) ?d39 ?_ ?d40 ?d41 ?d42 ?d43 ?d44 ?_
 case d39 => exact ⟨rfl, by decide +kernel, by decide +kernel, comp_free _ _ rfl, rfl, comp_ix _ _ _ _ rfl⟩
 case' d40 => apply cg_name ?_
 case' d41 => apply mi_str ?_
 case d41 => exact (me_var (pvk 0 q144))
 case d42 => (intro _ _ _ _; exact (pgo (i := 0) (by decide +kernel) (show List.Nodup (["_law_sign"] : List Str) from by decide +kernel) (by rfl)))
 case d43 => (intro _ _ _ _; exact mts_nil)
 case' d44 => (intro _ _ _ _; apply me_cmp ?d46 fm_in ?d47 me_str ?_)
 case d46 => exact (op_inM (hu151 hr))
 case d47 => exact (me_var (pvk 0 (NmOk.own (by decide +kernel))))
 all_goals (try walk_at "late")
theorem ok__law_worded (T : Txt K mg t) : FnOk P w K mg base CX0 1 t.f__law_worded t.d__law_worded ["_law_thing", "_law_lengths"] (spM K m__law_worded) := by
 refine T.F__law_worded.okM (k := 0) sc__law_worded rfl fun cdv A outer s H E hr => ?_
 unfold b__law_worded
 conv => arg 2; whnf
 apply mss_cons ?d1 ?d2
 case' d1 => apply ms_if ?d3 ?d4 mss_nil
 case' d3 => apply PW.pt ?_
 case' d3 => apply mw_or ?d6 ?d7
 case' d6 => apply mt_not ?_
 case' d6 => apply mt_val ?d9 ?_
 case' d9 => apply me_CB call_instM fm_inst ?d10 ?d11 PyProof.Rows.boot_isinstance ?d12 ?_ ?_
 case d10 => exact q153
 case d11 => exact T.z_isinstance
 case' d12 => apply ma_2 ?d13 ?d14 ?_ ?_
 case d13 => exact (me_var (pvk 0 q149))
 case' d14 => apply me_C ?d15 ?_
 case' d15 => apply pe_bltnk (v := .ty "tuple") ?d16 ?d17 ?_ ?_
 case d16 => exact q154
 case d17 => exact T.z_tuple
 case' d7 => apply mw_or ?d18 ?d19
 case' d18 => apply mt_cmp ?d20 fm_eq ?d21 ?d22 ?_
 case d20 => exact (op_eqK (hu150 hr))
 case d21 => exact (me_var (pvk 0 q149))
 case' d22 => apply me_tup ma_nil
 case' d19 => apply mw_or1 ?_
 case' d19 => apply mt_not ?_
 case' d19 => apply mt_val ?d25 ?_
 case' d25 => apply me_CB call_instM fm_inst ?d26 ?d27 PyProof.Rows.boot_isinstance ?d28 ?_ ?_
 case d26 => exact q153
 case d27 => exact T.z_isinstance
 case' d28 => apply ma_2 ?d29 ?d30 ?_ ?_
 case' d29 => apply me_ix (ix_M (hu151 hr)) fm_ix ?d31 me_int ?_
 case d31 => exact (me_var (pvk 0 q149))
 case' d30 => apply me_C ?d32 ?_
 case' d32 => apply pe_bltnk (v := .ty "str") ?d33 ?d34 ?_ ?_
 case d33 => exact q152
 case d34 => exact T.z_str
 case' d4 => apply mss_one ?_
 case' d4 => apply ms_ret me_bl
 case' d2 => apply mss_one ?_
 case' d2 => apply ms_ret ?_
 case' d2 => apply me_and ?d38 ?d39
 case' d38 => apply me_cmp ?d40 fm_in ?d41 ?d42 ?_
 case d40 => exact (op_inM (hu151 hr))
 case' d41 => apply me_ix (ix_M (hu151 hr)) fm_ix ?d43 me_int ?_
 case d43 => exact (me_var (pvk 0 q149))
 case d42 => exact (me_var (pvk 1 q151))
 case' d39 => apply me_one ?_
 case' d39 => apply me_cmp ?d45 fm_eq ?d46 ?d47 ?_
 case d45 => exact (op_eqK (hu150 hr))
 case' d46 => apply me_CB call_lenM fm_len ?d48 ?d49 PySem.boot_len ?d50 ?_ ?_
 case d48 => exact q150
 case d49 => exact T.z_len
 case' d50 => apply ma_1 ?d51 ?_
 case d51 => exact (me_var (pvk 0 q149))
 case' d47 => apply me_ix (ix_M (hu151 hr)) fm_ix ?d52 ?d53 ?_
 case d52 => exact (me_var (pvk 1 q151))
 case' d53 => apply me_ix (ix_M (hu151 hr)) fm_ix ?d54 me_int ?_
 case d54 => exact (me_var (pvk 0 q149))
 all_goals (try walk_at "late")
theorem ok__law_right_test (T : Txt K mg t) (n : Nat) : FnOk P w K mg base CX0 (n + 1) t.f__law_right_test t.d__law_right_test ["_law_thing"] (spM K (m__law_right_test n)) := by
 induction n with
 | zero => exact FnOk.empty
 | succ n ih =>
   have C__law_worded := Cal.of (ok__law_worded (P := P) (w := w) (base := base) T) T.m__law_worded T.F__law_worded.kp T.b__law_worded
   have C__law_name := Cal.of (ok__law_name (P := P) (w := w) (base := base) T) T.m__law_name T.F__law_name.kp T.b__law_name
   have C__law_number := Cal.of (ok__law_number (P := P) (w := w) (base := base) T) T.m__law_number T.F__law_number.kp T.b__law_number
   have C__law_right_test := Cal.of ih T.m__law_right_test T.F__law_right_test.kp T.b__law_right_test
   refine FnOk.mono (j := n + 1 + 1) (T.F__law_right_test.okM (k := n + 1) sc__law_right_test rfl fun cdv A outer s H E hr => ?_) (by omega)
   unfold b__law_right_test
   conv => arg 2; whnf
   apply mss_cons ?d1 ?d2
   case' d1 => apply ms_set (i := 1) ?d3 ?_ ?d4 ?d5 ?_ ?_
   case d3 => exact sc__law_right_test.nd
   case d4 => exact (Or.inl q159.lk)
   case' d5 => apply me_dsp ?d6 ?_ ?_ ?_ ?_
   case' d6 => apply mp_cons me_str me_int ?_
   case' d6 => apply mp_cons me_str me_int ?_
   case' d6 => apply mp_cons me_str me_int ?_
   case' d6 => apply mp_cons me_str me_int ?_
   case' d6 => apply mp_cons me_str me_int ?_
   case' d6 => apply mp_cons me_str me_int ?_
   case' d6 => apply mp_cons me_str me_int ?_
   case' d6 => apply mp_cons me_str me_int mp_nil
   case' d2 => apply mss_cons ?d14 ?d15
   case' d14 => apply ms_if ?d16 ?d17 mss_nil
   case' d16 => apply mt_not ?_
   case' d16 => apply mt_val ?d19 ?_
   case' d19 => apply me_cal ?d20 ?_ ?d21 ?d22 ?_ ?_
   case d20 => exact C__law_worded
   case d21 => exact q160
   case' d22 => apply ma_2 ?d23 ?d24 ?_ ?_
   case d23 => exact (me_var (pvk 0 q155))
   case d24 => exact (me_var (pvk 1 q159))
   case' d17 => apply mss_one ?_
   case' d17 => apply ms_ret me_bl
   case' d15 => apply mss_cons ?d26 ?d27
   case' d26 => apply ms_if ?d28 ?d29 mss_nil
   case' d28 => apply mt_cmp ?d30 fm_in ?d31 ?d32 ?_
   case d30 => exact (op_inM (hu151 hr))
   case' d31 => apply me_ix (ix_M (hu151 hr)) fm_ix ?d33 me_int ?_
   case d33 => exact (me_var (pvk 0 q155))
   case' d32 => apply me_tup ?_
   case' d32 => apply ma_3 me_str me_str me_str ?_ ?_ ?_
   case' d29 => apply mss_one ?_
   case' d29 => apply ms_ret ?_
   case' d29 => apply me_CB ?d37 fm_all ?d38 ?d39 PyProof.Rows.boot_all ?d40 ?_ ?_
   case d37 => exact (call_all rfl)
   case d38 => exact q156
   case d39 => exact T.z_all
   case' d40 => apply ma_1 ?d41 ?_
   case' d41 => apply me_comp (N' := ["_law_part"]) (ix := [none]) ?d42 ?_ ?d43 ?d44 ?d45 ?d46 ?d47 ?_
   case d42 => exact ⟨rfl, by decide +kernel, by decide +kernel, comp_free _ _ rfl, rfl, comp_ix _ _ _ _ rfl⟩
   case' d43 => apply cg_name ?_
   case' d44 => apply mi_tup ?_
   case' d44 => apply me_slice sl_M fm_sl ?d49 ?d50 mo_none
   case d49 => exact (me_var (pvk 0 q155))
   case' d50 => apply mo_some me_int
   case d45 => (intro _ _ _ _; exact (pgo (i := 0) (by decide +kernel) (show List.Nodup (["_law_part"] : List Str) from by decide +kernel) (by rfl)))
   case d46 => (intro _ _ _ _; exact mts_nil)
   case' d47 => (intro _ _ _ _; apply me_cal ?d51 ?_ ?d52 ?d53 ?_ ?_)
   case d51 => exact C__law_right_test
   case d52 => exact (NmOk.glob (by decide +kernel))
   case' d53 => apply ma_1 ?d54 ?_
   case d54 => exact (me_var (pvk 0 (NmOk.own (by decide +kernel))))
   case' d27 => apply mss_cons ?d55 ?d56
   case' d55 => apply ms_for ?_ ?_ ?d57 ?d58 ?d59 ?_
   case' d57 => apply mi_tup ?_
   case' d57 => apply me_slice sl_M fm_sl ?d61 ?d62 ?d63
   case d61 => exact (me_var (pvk 0 q155))
   case' d62 => apply mo_some me_int
   case' d63 => apply mo_some me_int
   case' d58 => apply mg_name ?_
   case' d58 => apply pg_name (i := 2) ?d65 ?_ ?d66 ?_
   case d65 => exact sc__law_right_test.nd
   case d66 => exact (Or.inl q157.lk)
   case' d59 => apply mss_one ?_
   case' d59 => apply ms_if ?d68 ?d69 mss_nil
   case' d68 => apply mt_not ?_
   case' d68 => apply mt_val ?d71 ?_
   case' d71 => apply me_cal ?d72 ?_ ?d73 ?d74 ?_ ?_
   case d72 => exact C__law_name
   case d73 => exact q158
   case' d74 => apply ma_1 ?d75 ?_
   case d75 => exact (me_var (pvk 2 q157))
   case' d69 => apply mss_one ?_
   case' d69 => apply ms_ret me_bl
   case' d56 => apply mss_one ?_
   case' d56 => apply ms_ret ?_
   case' d56 => apply me_CB ?d79 fm_all ?d80 ?d81 PyProof.Rows.boot_all ?d82 ?_ ?_
   case d79 => exact (call_all rfl)
   case d80 => exact q156
   case d81 => exact T.z_all
   case' d82 => apply ma_1 ?d83 ?_
   case' d83 => apply me_comp (N' := ["_law_value_here"]) (ix := [none]) ?d84 ?_ ?d85 ?d86 ?d87 ?d88 ?d89 ?_
   case d84 => exact ⟨rfl, by decide +kernel, by decide +kernel, comp_free _ _ rfl, rfl, comp_ix _ _ _ _ rfl⟩
   case' d85 => apply cg_name ?_
   case' d86 => apply mi_tup ?_
   case' d86 => apply me_slice sl_M fm_sl ?d91 ?d92 mo_none
   case d91 => exact (me_var (pvk 0 q155))
   case' d92 => apply mo_some me_int
   case d87 => (intro _ _ _ _; exact (pgo (i := 0) (by decide +kernel) (show List.Nodup (["_law_value_here"] : List Str) from by decide +kernel) (by rfl)))
   case d88 => (intro _ _ _ _; exact mts_nil)
   case' d89 => (intro _ _ _ _; apply me_or ?d93 ?d94)
   case' d93 => apply me_cal ?d95 ?_ ?d96 ?d97 ?_ ?_
   case d95 => exact C__law_number
   case d96 => exact (NmOk.glob (by decide +kernel))
   case' d97 => apply ma_1 ?d98 ?_
   case d98 => exact (me_var (pvk 0 (NmOk.own (by decide +kernel))))
   case' d94 => apply me_one ?_
   case' d94 => apply me_CB call_instM fm_inst ?d100 ?d101 PyProof.Rows.boot_isinstance ?d102 ?_ ?_
   case d100 => exact (NmOk.glob (by decide +kernel))
   case d101 => exact T.z_isinstance
   case' d102 => apply ma_2 ?d103 ?d104 ?_ ?_
   case d103 => exact (me_var (pvk 0 (NmOk.own (by decide +kernel))))
   case' d104 => apply me_C ?d105 ?_
   case' d105 => apply pe_bltnk (v := .ty "str") ?d106 ?d107 ?_ ?_
   case d106 => exact (NmOk.glob (by decide +kernel))
   case d107 => exact T.z_str
   all_goals (try walk_at "late")
theorem ok__law_right_way (T : Txt K mg t) (n : Nat) : FnOk P w K mg base CX0 (n + 1) t.f__law_right_way t.d__law_right_way ["_law_thing"] (spM K (m__law_right_way n)) := by
 induction n with
 | zero => exact FnOk.empty
 | succ n ih =>
   have C__law_worded := Cal.of (ok__law_worded (P := P) (w := w) (base := base) T) T.m__law_worded T.F__law_worded.kp T.b__law_worded
   have C__law_name := Cal.of (ok__law_name (P := P) (w := w) (base := base) T) T.m__law_name T.F__law_name.kp T.b__law_name
   have C__law_number := Cal.of (ok__law_number (P := P) (w := w) (base := base) T) T.m__law_number T.F__law_number.kp T.b__law_number
   have C__law_right_way := Cal.of ih T.m__law_right_way T.F__law_right_way.kp T.b__law_right_way
   refine FnOk.mono (j := n + 1 + 1) (T.F__law_right_way.okM (k := n + 1) sc__law_right_way rfl fun cdv A outer s H E hr => ?_) (by omega)
   unfold b__law_right_way
   conv => arg 2; whnf
   apply mss_cons ?d1 ?d2
   case' d1 => apply ms_if ?d3 ?d4 mss_nil
   case' d3 => apply mt_not ?_
   case' d3 => apply mt_val ?d6 ?_
   case' d6 => apply me_cal ?d7 ?_ ?d8 ?d9 ?_ ?_
   case d7 => exact C__law_worded
   case d8 => exact q168
   case' d9 => apply ma_2 ?d10 ?d11 ?_ ?_
   case d10 => exact (me_var (pvk 0 q161))
   case' d11 => apply me_dsp ?d12 ?_ ?_ ?_ ?_
   case' d12 => apply mp_cons me_str me_int ?_
   case' d12 => apply mp_cons me_str me_int ?_
   case' d12 => apply mp_cons me_str me_int ?_
   case' d12 => apply mp_cons me_str me_int ?_
   case' d12 => apply mp_cons me_str me_int ?_
   case' d12 => apply mp_cons me_str me_int mp_nil
   case' d4 => apply mss_one ?_
   case' d4 => apply ms_ret me_bl
   case' d2 => apply mss_cons ?d19 ?d20
   case' d19 => apply ms_if ?d21 ?d22 mss_nil
   case' d21 => apply mt_cmp ?d23 fm_eq ?d24 me_str ?_
   case d23 => exact (op_eqK (hu150 hr))
   case' d24 => apply me_ix (ix_M (hu151 hr)) fm_ix ?d25 me_int ?_
   case d25 => exact (me_var (pvk 0 q161))
   case' d22 => apply mss_cons ?d26 ?d27
   case' d26 => apply ms_if ?d28 ?d29 mss_nil
   case' d28 => apply PW.pt ?_
   case' d28 => apply mw_and ?d31 ?d32
   case' d31 => apply mt_cmp op_isNotA fm_isNot ?d33 me_non ?_
   case' d33 => apply me_ix (ix_M (hu151 hr)) fm_ix ?d34 me_int ?_
   case d34 => exact (me_var (pvk 0 q161))
   case' d32 => apply mw_and1 ?_
   case' d32 => apply mt_not ?_
   case' d32 => apply mt_val ?d37 ?_
   case' d37 => apply me_cal ?d38 ?_ ?d39 ?d40 ?_ ?_
   case d38 => exact C__law_name
   case d39 => exact q167
   case' d40 => apply ma_1 ?d41 ?_
   case' d41 => apply me_ix (ix_M (hu151 hr)) fm_ix ?d42 me_int ?_
   case d42 => exact (me_var (pvk 0 q161))
   case' d29 => apply mss_one ?_
   case' d29 => apply ms_ret me_bl
   case' d27 => apply mss_one ?_
   case' d27 => apply ms_ret ?_
   case' d27 => apply me_and ?d46 ?d47
   case' d46 => apply me_CB call_instM fm_inst ?d48 ?d49 PyProof.Rows.boot_isinstance ?d50 ?_ ?_
   case d48 => exact q166
   case d49 => exact T.z_isinstance
   case' d50 => apply ma_2 ?d51 ?d52 ?_ ?_
   case' d51 => apply me_ix (ix_M (hu151 hr)) fm_ix ?d53 me_int ?_
   case d53 => exact (me_var (pvk 0 q161))
   case' d52 => apply me_C ?d54 ?_
   case' d54 => apply pe_bltnk (v := .ty "str") ?d55 ?d56 ?_ ?_
   case d55 => exact q165
   case d56 => exact T.z_str
   case' d47 => apply me_one ?_
   case' d47 => apply me_cmp ?d58 fm_in ?d59 ?d60 ?_
   case d58 => exact (op_inM (hu151 hr))
   case' d59 => apply me_ix (ix_M (hu151 hr)) fm_ix ?d61 me_int ?_
   case d61 => exact (me_var (pvk 0 q161))
   case' d60 => apply me_tup ?_
   case' d60 => apply ma_3 me_str me_str me_str ?_ ?_ ?_
   case' d20 => apply mss_cons ?d63 ?d64
   case' d63 => apply ms_if ?d65 ?d66 mss_nil
   case' d65 => apply mt_cmp ?d67 fm_eq ?d68 me_str ?_
   case d67 => exact (op_eqK (hu150 hr))
   case' d68 => apply me_ix (ix_M (hu151 hr)) fm_ix ?d69 me_int ?_
   case d69 => exact (me_var (pvk 0 q161))
   case' d66 => apply mss_cons ?d70 ?d71
   case' d70 => apply ms_if ?d72 ?d73 mss_nil
   case' d72 => apply PW.pt ?_
   case' d72 => apply mw_or ?d75 ?d76
   case' d75 => apply mt_not ?_
   case' d75 => apply mt_val ?d78 ?_
   case' d78 => apply me_cal ?d79 ?_ ?d80 ?d81 ?_ ?_
   case d79 => exact C__law_number
   case d80 => exact q164
   case' d81 => apply ma_1 ?d82 ?_
   case' d82 => apply me_ix (ix_M (hu151 hr)) fm_ix ?d83 me_int ?_
   case d83 => exact (me_var (pvk 0 q161))
   case' d76 => apply mw_or ?d84 ?d85
   case' d84 => apply mt_not ?_
   case' d84 => apply mt_val ?d87 ?_
   case' d87 => apply me_cal ?d88 ?_ ?d89 ?d90 ?_ ?_
   case d88 => exact C__law_number
   case d89 => exact q164
   case' d90 => apply ma_1 ?d91 ?_
   case' d91 => apply me_ix (ix_M (hu151 hr)) fm_ix ?d92 me_int ?_
   case d92 => exact (me_var (pvk 0 q161))
   case' d85 => apply mw_or1 ?_
   case' d85 => apply mt_not ?_
   case' d85 => apply mt_chain3 op_leA fm_le op_leA fm_le op_leA fm_le me_int ?d95 ?d96 me_int ?_
   case' d95 => apply me_ix (ix_M (hu151 hr)) fm_ix ?d97 me_int ?_
   case d97 => exact (me_var (pvk 0 q161))
   case' d96 => apply me_ix (ix_M (hu151 hr)) fm_ix ?d98 me_int ?_
   case d98 => exact (me_var (pvk 0 q161))
   case' d73 => apply mss_one ?_
   case' d73 => apply ms_ret me_bl
   case' d71 => apply mss_one ?_
   case' d71 => apply ms_ret ?_
   case' d71 => apply me_cal ?d102 ?_ ?d103 ?d104 ?_ ?_
   case d102 => exact C__law_right_way
   case d103 => exact q163
   case' d104 => apply ma_1 ?d105 ?_
   case' d105 => apply me_ix (ix_M (hu151 hr)) fm_ix ?d106 me_int ?_
   case d106 => exact (me_var (pvk 0 q161))
   case' d64 => apply mss_one ?_
   case' d64 => apply ms_ret ?_
   case' d64 => apply me_CB ?d109 fm_all ?d110 ?d111 PyProof.Rows.boot_all ?d112 ?_ ?_
   case d109 => exact (call_all rfl)
   case d110 => exact q162
   case d111 => exact T.z_all
   case' d112 => apply ma_1 ?d113 ?_
   case' d113 => apply me_comp (N' := ["_law_part"]) (ix := [none]) ?d114 ?_ ?d115 ?d116 ?d117 ?d118 ?d119 ?_
   case d114 => exact ⟨rfl, by decide +kernel, by decide +kernel, comp_free _ _ rfl, rfl, comp_ix _ _ _ _ rfl⟩
   case' d115 => apply cg_name ?_
   case' d116 => apply mi_tup ?_
   case' d116 => apply me_slice sl_M fm_sl ?d121 ?d122 mo_none
   case d121 => exact (me_var (pvk 0 q161))
   case' d122 => apply mo_some me_int
   case d117 => (intro _ _ _ _; exact (pgo (i := 0) (by decide +kernel) (show List.Nodup (["_law_part"] : List Str) from by decide +kernel) (by rfl)))
   case d118 => (intro _ _ _ _; exact mts_nil)
   case' d119 => (intro _ _ _ _; apply me_cal ?d123 ?_ ?d124 ?d125 ?_ ?_)
   case d123 => exact C__law_right_way
   case d124 => exact (NmOk.glob (by decide +kernel))
   case' d125 => apply ma_1 ?d126 ?_
   case d126 => exact (me_var (pvk 0 (NmOk.own (by decide +kernel))))
   all_goals (try walk_at "late")
theorem ok__law_right_bow (T : Txt K mg t) : FnOk P w K mg base CX0 10 t.f__law_right_bow t.d__law_right_bow ["_law_thing", "_law_many"] (spM K m__law_right_bow) := by
 have C__law_right_way := Cal.of (ok__law_right_way (P := P) (w := w) (base := base) T 8) T.m__law_right_way T.F__law_right_way.kp T.b__law_right_way
 have C__law_number := Cal.of (ok__law_number (P := P) (w := w) (base := base) T) T.m__law_number T.F__law_number.kp T.b__law_number
 refine T.F__law_right_bow.okM (k := 9) sc__law_right_bow rfl fun cdv A outer s H E hr => ?_
 unfold b__law_right_bow
 conv => arg 2; whnf
 apply mss_cons ?d1 ?d2
 case' d1 => apply ms_if ?d3 ?d4 mss_nil
 case' d3 => apply PW.pt ?_
 case' d3 => apply mw_or ?d6 ?d7
 case' d6 => apply mt_not ?_
 case' d6 => apply mt_val ?d9 ?_
 case' d9 => apply me_CB call_instM fm_inst ?d10 ?d11 PyProof.Rows.boot_isinstance ?d12 ?_ ?_
 case d10 => exact q172
 case d11 => exact T.z_isinstance
 case' d12 => apply ma_2 ?d13 ?d14 ?_ ?_
 case d13 => exact (me_var (pvk 0 q169))
 case' d14 => apply me_C ?d15 ?_
 case' d15 => apply pe_bltnk (v := .ty "tuple") ?d16 ?d17 ?_ ?_
 case d16 => exact q177
 case d17 => exact T.z_tuple
 case' d7 => apply mw_or1 ?_
 case' d7 => apply mt_cmp ?d19 fm_ne ?d20 me_int ?_
 case d19 => exact (op_neK (hu151 hr))
 case' d20 => apply me_CB call_lenM fm_len ?d21 ?d22 PySem.boot_len ?d23 ?_ ?_
 case d21 => exact q176
 case d22 => exact T.z_len
 case' d23 => apply ma_1 ?d24 ?_
 case d24 => exact (me_var (pvk 0 q169))
 case' d4 => apply mss_one ?_
 case' d4 => apply ms_ret me_bl
 case' d2 => apply mss_cons ?d26 ?d27
 case' d26 => apply ms_for ?_ ?_ ?d28 ?d29 ?d30 ?_
 case' d28 => apply mi_tup ?_
 case' d28 => apply me_slice sl_M fm_sl ?d32 mo_none ?d33
 case d32 => exact (me_var (pvk 0 q169))
 case' d33 => apply mo_some me_int
 case' d29 => apply mg_name ?_
 case' d29 => apply pg_name (i := 2) ?d35 ?_ ?d36 ?_
 case d35 => exact sc__law_right_bow.nd
 case d36 => exact (Or.inl q173.lk)
 case' d30 => apply mss_one ?_
 case' d30 => apply ms_if ?d38 ?d39 mss_nil
 case' d38 => apply PW.pt ?_
 case' d38 => apply mw_or ?d41 ?d42
 case' d41 => apply mt_not ?_
 case' d41 => apply mt_val ?d44 ?_
 case' d44 => apply me_cal ?d45 ?_ ?d46 ?d47 ?_ ?_
 case d45 => exact C__law_number
 case d46 => exact q175
 case' d47 => apply ma_1 ?d48 ?_
 case d48 => exact (me_var (pvk 2 q173))
 case' d42 => apply mw_or ?d49 ?d50
 case' d49 => apply mt_cmp op_ltA fm_lt ?d51 me_int ?_
 case d51 => exact (me_var (pvk 2 q173))
 case' d50 => apply mw_or1 ?_
 case' d50 => apply mt_cmp op_geA fm_ge ?d53 ?d54 ?_
 case d53 => exact (me_var (pvk 2 q173))
 case d54 => exact (me_var (pvk 1 q174))
 case' d39 => apply mss_one ?_
 case' d39 => apply ms_ret me_bl
 case' d27 => apply mss_one ?_
 case' d27 => apply ms_ret ?_
 case' d27 => apply me_and ?d58 ?d59
 case' d58 => apply me_CB call_instM fm_inst ?d60 ?d61 PyProof.Rows.boot_isinstance ?d62 ?_ ?_
 case d60 => exact q172
 case d61 => exact T.z_isinstance
 case' d62 => apply ma_2 ?d63 ?d64 ?_ ?_
 case' d63 => apply me_ix (ix_M (hu151 hr)) fm_ix ?d65 me_int ?_
 case d65 => exact (me_var (pvk 0 q169))
 case' d64 => apply me_C ?d66 ?_
 case' d66 => apply pe_bltnk (v := .ty "str") ?d67 ?d68 ?_ ?_
 case d67 => exact q171
 case d68 => exact T.z_str
 case' d59 => apply me_and ?d69 ?d70
 case' d69 => apply me_cmp ?d71 fm_in ?d72 ?d73 ?_
 case d71 => exact (op_inM (hu151 hr))
 case' d72 => apply me_ix (ix_M (hu151 hr)) fm_ix ?d74 me_int ?_
 case d74 => exact (me_var (pvk 0 q169))
 case' d73 => apply me_tup ?_
 case' d73 => apply ma_4 me_str me_str me_str me_str ?_ ?_ ?_ ?_
 case' d70 => apply me_one ?_
 case' d70 => apply me_cal ?d77 ?_ ?d78 ?d79 ?_ ?_
 case d77 => exact C__law_right_way
 case d78 => exact q170
 case' d79 => apply ma_1 ?d80 ?_
 case' d80 => apply me_ix (ix_M (hu151 hr)) fm_ix ?d81 me_int ?_
 case d81 => exact (me_var (pvk 0 q169))
 all_goals (try walk_at "late")
theorem ok__law_right_pair (T : Txt K mg t) : FnOk P w K mg base CX0 2 t.f__law_right_pair t.d__law_right_pair ["_law_thing", "_law_many"] (spM K m__law_right_pair) := by
 have C__law_worded := Cal.of (ok__law_worded (P := P) (w := w) (base := base) T) T.m__law_worded T.F__law_worded.kp T.b__law_worded
 have C__law_name := Cal.of (ok__law_name (P := P) (w := w) (base := base) T) T.m__law_name T.F__law_name.kp T.b__law_name
 have C__law_number := Cal.of (ok__law_number (P := P) (w := w) (base := base) T) T.m__law_number T.F__law_number.kp T.b__law_number
 refine T.F__law_right_pair.okM (k := 1) sc__law_right_pair rfl fun cdv A outer s H E hr => ?_
 unfold b__law_right_pair
 conv => arg 2; whnf
 apply mss_cons ?d1 ?d2
 case' d1 => apply ms_if ?d3 ?d4 mss_nil
 case' d3 => apply mt_not ?_
 case' d3 => apply mt_val ?d6 ?_
 case' d6 => apply me_cal ?d7 ?_ ?d8 ?d9 ?_ ?_
 case d7 => exact C__law_worded
 case d8 => exact q185
 case' d9 => apply ma_2 ?d10 ?d11 ?_ ?_
 case d10 => exact (me_var (pvk 0 q184))
 case' d11 => apply me_dsp ?d12 ?_ ?_ ?_ ?_
 case' d12 => apply mp_cons me_str me_int ?_
 case' d12 => apply mp_cons me_str me_int ?_
 case' d12 => apply mp_cons me_str me_int mp_nil
 case' d4 => apply mss_one ?_
 case' d4 => apply ms_ret me_bl
 case' d2 => apply mss_cons ?d16 ?d17
 case' d16 => apply ms_par (i := 2) (j := 3) ?_ ?d18 ?_ ?_ ?_ ?d19 ?d20 ?d21 ?_ ?_
 case d18 => exact sc__law_right_pair.nd
 case d19 => exact q180.lk
 case d20 => exact q178.lk
 case' d21 => apply ma_2 ?d22 ?d23 ?_ ?_
 case' d22 => apply me_lst ?_
 case' d22 => apply ma_2 ?d25 ?d26 ?_ ?_
 case' d25 => apply me_ix (ix_M (hu151 hr)) fm_ix ?d27 me_int ?_
 case d27 => exact (me_var (pvk 0 q184))
 case' d26 => apply me_ix (ix_M (hu151 hr)) fm_ix ?d28 me_int ?_
 case d28 => exact (me_var (pvk 0 q184))
 case' d23 => apply me_lst ma_nil
 case' d17 => apply mss_cons ?d29 ?d30
 case' d29 => apply ms_if ?d31 ?d32 mss_nil
 case' d31 => apply mt_cmp ?d33 fm_ne ?d34 me_str ?_
 case d33 => exact (op_neK (hu151 hr))
 case' d34 => apply me_ix (ix_M (hu151 hr)) fm_ix ?d35 me_int ?_
 case d35 => exact (me_var (pvk 0 q184))
 case' d32 => apply mss_one ?_
 case' d32 => apply ms_par (i := 2) (j := 3) ?_ ?d37 ?_ ?_ ?_ ?d38 ?d39 ?d40 ?_ ?_
 case d37 => exact sc__law_right_pair.nd
 case d38 => exact q180.lk
 case d39 => exact q178.lk
 case' d40 => apply ma_2 ?d41 ?d42 ?_ ?_
 case' d41 => apply me_lst ?_
 case' d41 => apply ma_2 ?d44 ?d45 ?_ ?_
 case' d44 => apply me_ix (ix_M (hu151 hr)) fm_ix ?d46 me_int ?_
 case d46 => exact (me_var (pvk 0 q184))
 case' d45 => apply me_ix (ix_M (hu151 hr)) fm_ix ?d47 me_int ?_
 case d47 => exact (me_var (pvk 0 q184))
 case' d42 => apply me_lst ?_
 case' d42 => apply ma_2 ?d49 ?d50 ?_ ?_
 case' d49 => apply me_ix (ix_M (hu151 hr)) fm_ix ?d51 me_int ?_
 case d51 => exact (me_var (pvk 0 q184))
 case' d50 => apply me_ix (ix_M (hu151 hr)) fm_ix ?d52 me_int ?_
 case d52 => exact (me_var (pvk 0 q184))
 case' d30 => apply mss_cons ?d53 ?d54
 case' d53 => apply ms_for ?_ ?_ ?d55 ?d56 ?d57 ?_
 case' d55 => apply mi_list ?_
 case d55 => exact (me_var (pvk 2 q180))
 case' d56 => apply mg_name ?_
 case' d56 => apply pg_name (i := 4) ?d60 ?_ ?d61 ?_
 case d60 => exact sc__law_right_pair.nd
 case d61 => exact (Or.inl q181.lk)
 case' d57 => apply mss_one ?_
 case' d57 => apply ms_if ?d63 ?d64 mss_nil
 case' d63 => apply PW.pt ?_
 case' d63 => apply mw_or ?d66 ?d67
 case' d66 => apply mt_not ?_
 case' d66 => apply mt_val ?d69 ?_
 case' d69 => apply me_cal ?d70 ?_ ?d71 ?d72 ?_ ?_
 case d70 => exact C__law_number
 case d71 => exact q183
 case' d72 => apply ma_1 ?d73 ?_
 case d73 => exact (me_var (pvk 4 q181))
 case' d67 => apply mw_or ?d74 ?d75
 case' d74 => apply mt_cmp op_ltA fm_lt ?d76 me_int ?_
 case d76 => exact (me_var (pvk 4 q181))
 case' d75 => apply mw_or1 ?_
 case' d75 => apply mt_cmp op_geA fm_ge ?d78 ?d79 ?_
 case d78 => exact (me_var (pvk 4 q181))
 case d79 => exact (me_var (pvk 1 q182))
 case' d64 => apply mss_one ?_
 case' d64 => apply ms_ret me_bl
 case' d54 => apply mss_one ?_
 case' d54 => apply ms_ret ?_
 case' d54 => apply me_CB ?d83 fm_all ?d84 ?d85 PyProof.Rows.boot_all ?d86 ?_ ?_
 case d83 => exact (call_all rfl)
 case d84 => exact q179
 case d85 => exact T.z_all
 case' d86 => apply ma_1 ?d87 ?_
 case' d87 => apply me_comp (N' := ["_law_name_here"]) (ix := [none]) ?d88 ?_ ?d89 ?d90 ?d91 ?d92 ?d93 ?_
 case d88 => exact ⟨rfl, by decide +kernel, by decide +kernel, comp_free _ _ rfl, rfl, comp_ix _ _ _ _ rfl⟩
 case' d89 => apply cg_name ?_
 case' d90 => apply mi_list ?_
 case d90 => exact (me_var (pvk 3 q178))
 case d91 => (intro _ _ _ _; exact (pgo (i := 0) (by decide +kernel) (show List.Nodup (["_law_name_here"] : List Str) from by decide +kernel) (by rfl)))
 case d92 => (intro _ _ _ _; exact mts_nil)
 case' d93 => (intro _ _ _ _; apply me_cal ?d95 ?_ ?d96 ?d97 ?_ ?_)
 case d95 => exact C__law_name
 case d96 => exact (NmOk.glob (by decide +kernel))
 case' d97 => apply ma_1 ?d98 ?_
 case d98 => exact (me_var (pvk 0 (NmOk.own (by decide +kernel))))
 all_goals (try walk_at "late")
theorem ok__law_due (T : Txt K mg t) : FnOk P w K mg base CX0 11 t.f__law_due t.d__law_due ["_law_thing"] (spM K m__law_due) := by
 have C__law_right_bow := Cal.of (ok__law_right_bow (P := P) (w := w) (base := base) T) T.m__law_right_bow T.F__law_right_bow.kp T.b__law_right_bow
 have C__law_right_pair := Cal.of (ok__law_right_pair (P := P) (w := w) (base := base) T) T.m__law_right_pair T.F__law_right_pair.kp T.b__law_right_pair
 have C__law_right_test := Cal.of (ok__law_right_test (P := P) (w := w) (base := base) T 8) T.m__law_right_test T.F__law_right_test.kp T.b__law_right_test
 have C__law_name := Cal.of (ok__law_name (P := P) (w := w) (base := base) T) T.m__law_name T.F__law_name.kp T.b__law_name
 refine T.F__law_due.okM (k := 10) sc__law_due rfl fun cdv A outer s H E hr => ?_
 unfold b__law_due
 conv => arg 2; whnf
 apply mss_cons ?d1 ?d2
 case' d1 => apply ms_if ?d3 ?d4 mss_nil
 case' d3 => apply PW.pt ?_
 case' d3 => apply mw_or ?d6 ?d7
 case' d6 => apply mt_not ?_
 case' d6 => apply mt_val ?d9 ?_
 case' d9 => apply me_CB call_instM fm_inst ?d10 ?d11 PyProof.Rows.boot_isinstance ?d12 ?_ ?_
 case d10 => exact q196
 case d11 => exact T.z_isinstance
 case' d12 => apply ma_2 ?d13 ?d14 ?_ ?_
 case d13 => exact (me_var (pvk 0 q197))
 case' d14 => apply me_C ?d15 ?_
 case' d15 => apply pe_bltnk (v := .ty "tuple") ?d16 ?d17 ?_ ?_
 case d16 => exact q195
 case d17 => exact T.z_tuple
 case' d7 => apply mw_or1 ?_
 case' d7 => apply mt_cmp ?d19 fm_ne ?d20 me_int ?_
 case d19 => exact (op_neK (hu151 hr))
 case' d20 => apply me_CB call_lenM fm_len ?d21 ?d22 PySem.boot_len ?d23 ?_ ?_
 case d21 => exact q189
 case d22 => exact T.z_len
 case' d23 => apply ma_1 ?d24 ?_
 case d24 => exact (me_var (pvk 0 q197))
 case' d4 => apply mss_one ?_
 case' d4 => apply ms_ret me_bl
 case' d2 => apply mss_cons ?d26 ?d27
 case' d26 => apply ms_for ?_ ?_ ?d28 ?d29 ?d30 ?_
 case' d28 => apply mi_tup ?_
 case d28 => exact (me_var (pvk 0 q197))
 case' d29 => apply mg_name ?_
 case' d29 => apply pg_name (i := 1) ?d33 ?_ ?d34 ?_
 case d33 => exact sc__law_due.nd
 case d34 => exact (Or.inl q198.lk)
 case' d30 => apply mss_one ?_
 case' d30 => apply ms_if ?d36 ?d37 mss_nil
 case' d36 => apply mt_not ?_
 case' d36 => apply mt_val ?d39 ?_
 case' d39 => apply me_CB call_instM fm_inst ?d40 ?d41 PyProof.Rows.boot_isinstance ?d42 ?_ ?_
 case d40 => exact q196
 case d41 => exact T.z_isinstance
 case' d42 => apply ma_2 ?d43 ?d44 ?_ ?_
 case d43 => exact (me_var (pvk 1 q198))
 case' d44 => apply me_C ?d45 ?_
 case' d45 => apply pe_bltnk (v := .ty "tuple") ?d46 ?d47 ?_ ?_
 case d46 => exact q195
 case d47 => exact T.z_tuple
 case' d37 => apply mss_one ?_
 case' d37 => apply ms_ret me_bl
 case' d27 => apply mss_cons ?d49 ?d50
 case' d49 => apply ms_asg ?d51 ?d52 ?_ ?_ ?_
 case d51 => exact (me_var (pvk 0 q197))
 case' d52 => apply mg_tup ?_ ?d53 ?_ ?_
 case' d53 => apply mgs_cons ?d54 ?d55 ?_
 case' d54 => apply mg_name ?_
 case' d54 => apply pg_name (i := 2) ?d57 ?_ ?d58 ?_
 case d57 => exact sc__law_due.nd
 case d58 => exact (Or.inr q188.lk)
 case' d55 => apply mgs_cons ?d59 ?d60 ?_
 case' d59 => apply mg_name ?_
 case' d59 => apply pg_name (i := 3) ?d62 ?_ ?d63 ?_
 case d62 => exact sc__law_due.nd
 case d63 => exact (Or.inl q190.lk)
 case' d60 => apply mgs_cons ?d64 mgs_nil ?_
 case' d64 => apply mg_name ?_
 case' d64 => apply pg_name (i := 4) ?d66 ?_ ?d67 ?_
 case d66 => exact sc__law_due.nd
 case d67 => exact (Or.inl q191.lk)
 case' d50 => apply mss_cons ?d68 ?d69
 case' d68 => apply ms_for ?_ ?_ ?d70 ?d71 ?d72 ?_
 case' d70 => apply mi_tup ?_
 case d70 => exact (me_var (pvk 2 q188))
 case' d71 => apply mg_name ?_
 case' d71 => apply pg_name (i := 5) ?d75 ?_ ?d76 ?_
 case d75 => exact sc__law_due.nd
 case d76 => exact (Or.inl q192.lk)
 case' d72 => apply mss_cons ?d77 ?d78
 case' d77 => apply ms_if ?d79 ?d80 mss_nil
 case' d79 => apply PW.pt ?_
 case' d79 => apply mw_or ?d82 ?d83
 case' d82 => apply mt_not ?_
 case' d82 => apply mt_val ?d85 ?_
 case' d85 => apply me_CB call_instM fm_inst ?d86 ?d87 PyProof.Rows.boot_isinstance ?d88 ?_ ?_
 case d86 => exact q196
 case d87 => exact T.z_isinstance
 case' d88 => apply ma_2 ?d89 ?d90 ?_ ?_
 case d89 => exact (me_var (pvk 5 q192))
 case' d90 => apply me_C ?d91 ?_
 case' d91 => apply pe_bltnk (v := .ty "tuple") ?d92 ?d93 ?_ ?_
 case d92 => exact q195
 case d93 => exact T.z_tuple
 case' d83 => apply mw_or ?d94 ?d95
 case' d94 => apply mt_cmp ?d96 fm_ne ?d97 me_int ?_
 case d96 => exact (op_neK (hu151 hr))
 case' d97 => apply me_CB call_lenM fm_len ?d98 ?d99 PySem.boot_len ?d100 ?_ ?_
 case d98 => exact q189
 case d99 => exact T.z_len
 case' d100 => apply ma_1 ?d101 ?_
 case d101 => exact (me_var (pvk 5 q192))
 case' d95 => apply mw_or1 ?_
 case' d95 => apply mt_not ?_
 case' d95 => apply mt_val ?d104 ?_
 case' d104 => apply me_cal ?d105 ?_ ?d106 ?d107 ?_ ?_
 case d105 => exact C__law_right_test
 case d106 => exact q194
 case' d107 => apply ma_1 ?d108 ?_
 case' d108 => apply me_ix (ix_M (hu151 hr)) fm_ix ?d109 me_int ?_
 case d109 => exact (me_var (pvk 5 q192))
 case' d80 => apply mss_one ?_
 case' d80 => apply ms_ret me_bl
 case' d78 => apply mss_one ?_
 case' d78 => apply ms_if ?d112 ?d113 mss_nil
 case' d112 => apply PW.pt ?_
 case' d112 => apply mw_and ?d115 ?d116
 case' d115 => apply mt_cmp op_isNotA fm_isNot ?d117 me_non ?_
 case' d117 => apply me_ix (ix_M (hu151 hr)) fm_ix ?d118 me_int ?_
 case d118 => exact (me_var (pvk 5 q192))
 case' d116 => apply mw_and1 ?_
 case' d116 => apply mt_not ?_
 case' d116 => apply mt_val ?d121 ?_
 case' d121 => apply me_cal ?d122 ?_ ?d123 ?d124 ?_ ?_
 case d122 => exact C__law_name
 case d123 => exact q193
 case' d124 => apply ma_1 ?d125 ?_
 case' d125 => apply me_ix (ix_M (hu151 hr)) fm_ix ?d126 me_int ?_
 case d126 => exact (me_var (pvk 5 q192))
 case' d113 => apply mss_one ?_
 case' d113 => apply ms_ret me_bl
 case' d69 => apply mss_cons ?d128 ?d129
 case' d128 => apply ms_set (i := 6) ?d130 ?_ ?d131 ?d132 ?_ ?_
 case d130 => exact sc__law_due.nd
 case d131 => exact (Or.inl q186.lk)
 case' d132 => apply me_op op_addM fm_add ?d133 ?d134
 case' d133 => apply me_comp (N' := ["_law_bow", "_law_spots_here"]) (ix := [none, some 2]) ?d135 ?_ ?d136 ?d137 ?d138 ?d139 ?d140 ?_
 case d135 => exact ⟨rfl, by decide +kernel, by decide +kernel, comp_free _ _ rfl, rfl, comp_ix _ _ _ _ rfl⟩
 case' d136 => apply cg_name ?_
 case' d137 => apply mi_tup ?_
 case d137 => exact (me_var (pvk 3 q190))
 case d138 => (intro _ _ _ _; exact (pgo (i := 0) (by decide +kernel) (show List.Nodup (["_law_bow", "_law_spots_here"] : List Str) from by decide +kernel) (by rfl)))
 case d139 => (intro _ _ _ _; exact mts_nil)
 case' d140 => (intro _ _ _ _; apply me_cal ?d142 ?_ ?d143 ?d144 ?_ ?_)
 case d142 => exact C__law_right_bow
 case d143 => exact (NmOk.glob (by decide +kernel))
 case' d144 => apply ma_2 ?d145 ?d146 ?_ ?_
 case d145 => exact (me_var (pvk 0 (NmOk.own (by decide +kernel))))
 case' d146 => apply me_CB call_lenM fm_len ?d147 ?d148 PySem.boot_len ?d149 ?_ ?_
 case d147 => exact (NmOk.glob (by decide +kernel))
 case d148 => exact T.z_len
 case' d149 => apply ma_1 ?d150 ?_
 case d150 => exact (me_var (pvf 1 (by decide +kernel)))
 case' d134 => apply me_comp (N' := ["_law_pair", "_law_spots_here"]) (ix := [none, some 2]) ?d151 ?_ ?d152 ?d153 ?d154 ?d155 ?d156 ?_
 case d151 => exact ⟨rfl, by decide +kernel, by decide +kernel, comp_free _ _ rfl, rfl, comp_ix _ _ _ _ rfl⟩
 case' d152 => apply cg_name ?_
 case' d153 => apply mi_tup ?_
 case d153 => exact (me_var (pvk 4 q191))
 case d154 => (intro _ _ _ _; exact (pgo (i := 0) (by decide +kernel) (show List.Nodup (["_law_pair", "_law_spots_here"] : List Str) from by decide +kernel) (by rfl)))
 case d155 => (intro _ _ _ _; exact mts_nil)
 case' d156 => (intro _ _ _ _; apply me_cal ?d158 ?_ ?d159 ?d160 ?_ ?_)
 case d158 => exact C__law_right_pair
 case d159 => exact (NmOk.glob (by decide +kernel))
 case' d160 => apply ma_2 ?d161 ?d162 ?_ ?_
 case d161 => exact (me_var (pvk 0 (NmOk.own (by decide +kernel))))
 case' d162 => apply me_CB call_lenM fm_len ?d163 ?d164 PySem.boot_len ?d165 ?_ ?_
 case d163 => exact (NmOk.glob (by decide +kernel))
 case d164 => exact T.z_len
 case' d165 => apply ma_1 ?d166 ?_
 case d166 => exact (me_var (pvf 1 (by decide +kernel)))
 case' d129 => apply mss_one ?_
 case' d129 => apply ms_ret ?_
 case' d129 => apply me_and ?d169 ?d170
 case' d169 => apply me_cmp op_gtA fm_gt ?d171 me_int ?_
 case' d171 => apply me_CB call_lenM fm_len ?d172 ?d173 PySem.boot_len ?d174 ?_ ?_
 case d172 => exact q189
 case d173 => exact T.z_len
 case' d174 => apply ma_1 ?d175 ?_
 case d175 => exact (me_var (pvk 2 q188))
 case' d170 => apply me_one ?_
 case' d170 => apply me_CB ?d177 fm_all ?d178 ?d179 PyProof.Rows.boot_all ?d180 ?_ ?_
 case d177 => exact (call_all rfl)
 case d178 => exact q187
 case d179 => exact T.z_all
 case' d180 => apply ma_1 ?d181 ?_
 case d181 => exact (me_var (pvk 6 q186))
 all_goals (try walk_at "late")
theorem ok__law_odd (T : Txt K mg t) : FnOk P w K mg base CX0 2 t.f__law_odd t.d__law_odd ["_law_box_here", "_law_thing"] (spM K m__law_odd) := by
 have C__law_take := Cal.of (ok__law_take (P := P) (w := w) (base := base) T) T.m__law_take T.F__law_take.kp T.b__law_take
 refine T.F__law_odd.okM (k := 1) sc__law_odd rfl fun cdv A outer s H E hr => ?_
 unfold b__law_odd
 conv => arg 2; whnf
 apply mss_cons ?d1 ?d2
 case' d1 => apply ms_set (i := 2) ?d3 ?_ ?d4 ?d5 ?_ ?_
 case d3 => exact sc__law_odd.nd
 case d4 => exact (Or.inl q199.lk)
 case' d5 => apply me_lst ?_
 case' d5 => apply ma_c4 me_bl me_non ?d7 me_int ?d8 ?_ ?_ ?_ ?_
 case' d7 => apply me_un un_neg fm_neg me_int
 case' d8 => apply ma_c4 me_str me_str ?d9 ?d10 ?d11 ?_ ?_ ?_ ?_
 case' d9 => apply me_tup ma_nil
 case' d10 => apply me_lst ma_nil
 case' d11 => apply ma_c4 me_str ?d12 me_str ?d13 ?d14 ?_ ?_ ?_ ?_
 case' d12 => apply me_tup ?_
 case' d12 => apply ma_2 me_str me_str ?_ ?_
 case' d13 => apply me_tup ?_
 case' d13 => apply ma_2 me_str me_int ?_ ?_
 case' d14 => apply ma_2 ?d17 me_int ?_ ?_
 case' d17 => apply me_lst ?_
 case' d17 => apply ma_1 ?d19 ?_
 case d19 => exact (me_var (pvk 1 q203))
 case' d2 => apply mss_cons ?d20 ?d21
 case' d20 => apply ms_set (i := 2) ?d22 ?_ ?d23 ?d24 ?_ ?_
 case d22 => exact sc__law_odd.nd
 case d23 => exact (Or.inl q199.lk)
 case' d24 => apply me_op op_addM fm_add ?d25 ?d26
 case d25 => exact (me_var (pvk 2 q199))
 case' d26 => apply me_lst ?_
 case' d26 => apply ma_4 ?d28 ?d29 ?d30 ?d31 ?_ ?_ ?_ ?_
 case' d28 => apply me_tup ?_
 case' d28 => apply ma_4 me_str ?d33 me_int me_int ?_ ?_ ?_ ?_
 case' d33 => apply me_tup ?_
 case' d33 => apply ma_1 me_str ?_
 case' d29 => apply me_tup ?_
 case' d29 => apply ma_4 me_str ?d36 me_int me_int ?_ ?_ ?_ ?_
 case' d36 => apply me_tup ?_
 case' d36 => apply ma_1 me_str ?_
 case' d30 => apply me_tup ?_
 case' d30 => apply ma_3 me_str me_str me_non ?_ ?_ ?_
 case' d31 => apply me_tup ?_
 case' d31 => apply ma_2 me_str me_int ?_ ?_
 case' d21 => apply mss_one ?_
 case' d21 => apply ms_ret ?_
 case' d21 => apply me_ix (ix_M (hu151 hr)) fm_ix ?d42 ?d43 ?_
 case d42 => exact (me_var (pvk 2 q199))
 case' d43 => apply me_cal ?d44 ?_ ?d45 ?d46 ?_ ?_
 case d44 => exact C__law_take
 case d45 => exact q202
 case' d46 => apply ma_2 ?d47 ?d48 ?_ ?_
 case d47 => exact (me_var (pvk 0 q200))
 case' d48 => apply me_CB call_lenM fm_len ?d49 ?d50 PySem.boot_len ?d51 ?_ ?_
 case d49 => exact q201
 case d50 => exact T.z_len
 case' d51 => apply ma_1 ?d52 ?_
 case d52 => exact (me_var (pvk 2 q199))
 all_goals (try walk_at "late")
theorem ok__law_spoilt (T : Txt K mg t) (n : Nat) : FnOk P w K mg base CX0 (n + 2) t.f__law_spoilt t.d__law_spoilt ["_law_box_here", "_law_thing"] (spM K (m__law_spoilt n)) := by
 induction n with
 | zero => exact FnOk.empty
 | succ n ih =>
   have C__law_take := Cal.of (ok__law_take (P := P) (w := w) (base := base) T) T.m__law_take T.F__law_take.kp T.b__law_take
   have C__law_odd := Cal.of (ok__law_odd (P := P) (w := w) (base := base) T) T.m__law_odd T.F__law_odd.kp T.b__law_odd
   have C__law_spoilt := Cal.of ih T.m__law_spoilt T.F__law_spoilt.kp T.b__law_spoilt
   refine FnOk.mono (j := n + 2 + 1) (T.F__law_spoilt.okM (k := n + 2) sc__law_spoilt rfl fun cdv A outer s H E hr => ?_) (by omega)
   unfold b__law_spoilt
   conv => arg 2; whnf
   apply mss_cons ?d1 ?d2
   case' d1 => apply ms_if ?d3 ?d4 mss_nil
   case' d3 => apply PW.pt ?_
   case' d3 => apply mw_or ?d6 ?d7
   case' d6 => apply mt_not ?_
   case' d6 => apply mt_val ?d9 ?_
   case' d9 => apply me_CB call_instM fm_inst ?d10 ?d11 PyProof.Rows.boot_isinstance ?d12 ?_ ?_
   case d10 => exact q213
   case d11 => exact T.z_isinstance
   case' d12 => apply ma_2 ?d13 ?d14 ?_ ?_
   case d13 => exact (me_var (pvk 1 q204))
   case' d14 => apply me_C ?d15 ?_
   case' d15 => apply pe_bltnk (v := .ty "tuple") ?d16 ?d17 ?_ ?_
   case d16 => exact q212
   case d17 => exact T.z_tuple
   case' d7 => apply mw_or ?d18 ?d19
   case' d18 => apply mt_cmp ?d20 fm_eq ?d21 ?d22 ?_
   case d20 => exact (op_eqK (hu150 hr))
   case d21 => exact (me_var (pvk 1 q204))
   case' d22 => apply me_tup ma_nil
   case' d19 => apply mw_or1 ?_
   case' d19 => apply mt_cmp ?d24 fm_eq ?d25 me_int ?_
   case d24 => exact (op_eqK (hu150 hr))
   case' d25 => apply me_cal ?d26 ?_ ?d27 ?d28 ?_ ?_
   case d26 => exact C__law_take
   case d27 => exact q210
   case' d28 => apply ma_2 ?d29 me_int ?_ ?_
   case d29 => exact (me_var (pvk 0 q206))
   case' d4 => apply mss_one ?_
   case' d4 => apply ms_ret ?_
   case' d4 => apply me_cal ?d32 ?_ ?d33 ?d34 ?_ ?_
   case d32 => exact C__law_odd
   case d33 => exact q214
   case' d34 => apply ma_2 ?d35 ?d36 ?_ ?_
   case d35 => exact (me_var (pvk 0 q206))
   case d36 => exact (me_var (pvk 1 q204))
   case' d2 => apply mss_cons ?d37 ?d38
   case' d37 => apply ms_set (i := 2) ?d39 ?_ ?d40 ?d41 ?_ ?_
   case d39 => exact sc__law_spoilt.nd
   case d40 => exact (Or.inl q205.lk)
   case' d41 => apply me_cal ?d42 ?_ ?d43 ?d44 ?_ ?_
   case d42 => exact C__law_take
   case d43 => exact q210
   case' d44 => apply ma_2 ?d45 ?d46 ?_ ?_
   case d45 => exact (me_var (pvk 0 q206))
   case' d46 => apply me_CB call_lenM fm_len ?d47 ?d48 PySem.boot_len ?d49 ?_ ?_
   case d47 => exact q211
   case d48 => exact T.z_len
   case' d49 => apply ma_1 ?d50 ?_
   case d50 => exact (me_var (pvk 1 q204))
   case' d38 => apply mss_cons ?d51 ?d52
   case' d51 => apply ms_set (i := 3) ?d53 ?_ ?d54 ?d55 ?_ ?_
   case d53 => exact sc__law_spoilt.nd
   case d54 => exact (Or.inl q208.lk)
   case' d55 => apply me_cal ?d56 ?_ ?d57 ?d58 ?_ ?_
   case d56 => exact C__law_take
   case d57 => exact q210
   case' d58 => apply ma_2 ?d59 me_int ?_ ?_
   case d59 => exact (me_var (pvk 0 q206))
   case' d52 => apply mss_cons ?d60 ?d61
   case' d60 => apply ms_if ?d62 ?d63 mss_nil
   case' d62 => apply mt_cmp ?d64 fm_eq ?d65 me_int ?_
   case d64 => exact (op_eqK (hu150 hr))
   case d65 => exact (me_var (pvk 3 q208))
   case' d63 => apply mss_one ?_
   case' d63 => apply ms_ret ?_
   case' d63 => apply me_CTy call_list_of fm_list ?d68 ?d69 ?_ ?d70 ?_ ?_
   case d68 => exact q209
   case d69 => exact T.z_list
   case' d70 => apply ma_1 ?d71 ?_
   case d71 => exact (me_var (pvk 1 q204))
   case' d61 => apply mss_cons ?d72 ?d73
   case' d72 => apply ms_if ?d74 ?d75 mss_nil
   case' d74 => apply mt_cmp ?d76 fm_eq ?d77 me_int ?_
   case d76 => exact (op_eqK (hu150 hr))
   case d77 => exact (me_var (pvk 3 q208))
   case' d75 => apply mss_one ?_
   case' d75 => apply ms_ret ?_
   case' d75 => apply me_op op_addM fm_add ?d80 ?d81
   case' d80 => apply me_slice sl_M fm_sl ?d82 mo_none ?d83
   case d82 => exact (me_var (pvk 1 q204))
   case' d83 => apply mo_some ?_
   case d83 => exact (me_var (pvk 2 q205))
   case' d81 => apply me_slice sl_M fm_sl ?d85 ?d86 mo_none
   case d85 => exact (me_var (pvk 1 q204))
   case' d86 => apply mo_some ?_
   case' d86 => apply me_op op_addM fm_add ?_ me_int
   case d86 => exact (me_var (pvk 2 q205))
   case' d73 => apply mss_cons ?d89 ?d90
   case' d89 => apply ms_if ?d91 ?d92 mss_nil
   case' d91 => apply mt_cmp ?d93 fm_eq ?d94 me_int ?_
   case d93 => exact (op_eqK (hu150 hr))
   case d94 => exact (me_var (pvk 3 q208))
   case' d92 => apply mss_one ?_
   case' d92 => apply ms_ret ?_
   case' d92 => apply me_op op_addM fm_add ?d97 ?d98
   case d97 => exact (me_var (pvk 1 q204))
   case' d98 => apply me_tup ?_
   case' d98 => apply ma_1 ?d100 ?_
   case' d100 => apply me_ix (ix_M (hu151 hr)) fm_ix ?d101 ?d102 ?_
   case d101 => exact (me_var (pvk 1 q204))
   case d102 => exact (me_var (pvk 2 q205))
   case' d90 => apply mss_one ?_
   case' d90 => apply ms_ret ?_
   case' d90 => apply me_op op_addM fm_add ?d105 ?d106
   case' d105 => apply me_op op_addM fm_add ?d107 ?d108
   case' d107 => apply me_slice sl_M fm_sl ?d109 mo_none ?d110
   case d109 => exact (me_var (pvk 1 q204))
   case' d110 => apply mo_some ?_
   case d110 => exact (me_var (pvk 2 q205))
   case' d108 => apply me_tup ?_
   case' d108 => apply ma_1 ?d113 ?_
   case' d113 => apply me_cal ?d114 ?_ ?d115 ?d116 ?_ ?_
   case d114 => exact C__law_spoilt
   case d115 => exact q207
   case' d116 => apply ma_2 ?d117 ?d118 ?_ ?_
   case d117 => exact (me_var (pvk 0 q206))
   case' d118 => apply me_ix (ix_M (hu151 hr)) fm_ix ?d119 ?d120 ?_
   case d119 => exact (me_var (pvk 1 q204))
   case d120 => exact (me_var (pvk 2 q205))
   case' d106 => apply me_slice sl_M fm_sl ?d121 ?d122 mo_none
   case d121 => exact (me_var (pvk 1 q204))
   case' d122 => apply mo_some ?_
   case' d122 => apply me_op op_addM fm_add ?_ me_int
   case d122 => exact (me_var (pvk 2 q205))
   all_goals (try walk_at "late")
theorem ok__law_folded (T : Txt K mg t) : FnOk P w K mg base CX0 1 t.f__law_folded t.d__law_folded ["_law_script", "_law_many"] (spM K m__law_folded) := by
 have z : FnOk P w K mg base CX0 1 t.f__law_folded t.d__law_folded ["_law_script", "_law_many"] (spM K (mFun 2 3 b__law_folded)) := by
  refine T.F__law_folded.okM (k := 0) sc__law_folded rfl fun cdv A outer s H E hr => ?_
  unfold b__law_folded
  conv => arg 2; whnf
  apply mss_cons ?d1 ?d2
  case' d1 => apply ms_set (i := 2) ?d3 ?_ ?d4 ?d5 ?_ ?_
  case d3 => exact sc__law_folded.nd
  case d4 => exact (Or.inl q215.lk)
  case' d5 => apply me_listH ?d6 ?d7 ?_ ?d8 ?_ ?_
  case d6 => exact q221
  case d7 => exact T.z_list
  case' d8 => apply ma_1 ?d9 ?_
  case' d9 => apply me_slice sl_M fm_sl ?d10 mo_none ?d11
  case d10 => exact (me_var (pvk 0 q216))
  case' d11 => apply mo_some ?_
  case d11 => exact (me_var (pvk 1 q217))
  case' d2 => apply mss_cons ?d13 ?d14
  case' d13 => apply ms_for ?_ ?_ ?d15 ?d16 ?d17 ?_
  case' d15 => apply mi_enumerate ?d18 ?d19 ?d20 ?_ ?_
  case d18 => exact q218
  case d19 => exact T.z_enumerate
  case' d20 => apply ma_1 ?d21 ?_
  case' d21 => apply me_slice sl_M fm_sl ?d22 ?d23 ?d24
  case d22 => exact (me_var (pvk 0 q216))
  case' d23 => apply mo_some ?_
  case d23 => exact (me_var (pvk 1 q217))
  case' d24 => apply mo_some me_int
  case' d16 => apply mg_tup ?_ ?d26 ?_ ?_
  case' d26 => apply mgs_cons ?d27 ?d28 ?_
  case' d27 => apply mg_name ?_
  case' d27 => apply pg_name (i := 3) ?d30 ?_ ?d31 ?_
  case d30 => exact sc__law_folded.nd
  case d31 => exact (Or.inl q220.lk)
  case' d28 => apply mgs_cons ?d32 mgs_nil ?_
  case' d32 => apply mg_name ?_
  case' d32 => apply pg_name (i := 4) ?d34 ?_ ?d35 ?_
  case d34 => exact sc__law_folded.nd
  case d35 => exact (Or.inl q219.lk)
  case' d17 => apply mss_one ?_
  case' d17 => apply ms_asg ?d37 ?d38 ?_ ?_ ?_
  case' d37 => apply me_op op_addM fm_add ?d39 ?d40
  case' d39 => apply me_ix (ix_M (hu151 hr)) fm_ix ?d41 ?d42 ?_
  case d41 => exact (me_var (pvk 2 q215))
  case' d42 => apply me_op op_mod fm_mod ?d43 ?d44
  case d43 => exact (me_var (pvk 3 q220))
  case d44 => exact (me_var (pvk 1 q217))
  case' d40 => apply me_op op_mulM fm_mul ?d45 ?d46
  case d45 => exact (me_var (pvk 4 q219))
  case' d46 => apply me_op op_addM fm_add ?_ me_int
  case d46 => exact (me_var (pvk 3 q220))
  case' d38 => apply mg_sub ?d48 ?d49 ?_
  case d48 => exact (me_var (pvk 2 q215))
  case' d49 => apply me_op op_mod fm_mod ?d50 ?d51
  case d50 => exact (me_var (pvk 3 q220))
  case d51 => exact (me_var (pvk 1 q217))
  case' d14 => apply mss_one ?_
  case' d14 => apply ms_ret ?_
  case d14 => exact (me_var (pvk 2 q215))
  all_goals (try walk_at "late")
 exact z.imp fun _ _ _ _ q => spM_seal q
theorem ok_law (T : Txt K mg t) : FnOk P w K mg base CX0 15 t.f_law t.d_law ["_law_script"] (spM K m_law) := by
 have C__law_folded := Cal.of (ok__law_folded (P := P) (w := w) (base := base) T) T.m__law_folded T.F__law_folded.kp T.b__law_folded
 have C__law_box := Cal.of (ok__law_box (P := P) (w := w) (base := base) T) T.m__law_box T.F__law_box.kp T.b__law_box
 have C_is_pattern := Cal.of (ok_is_pattern (P := P) (w := w) (base := base) T) T.m_is_pattern T.F_is_pattern.kp T.b_is_pattern
 have C__law_take := Cal.of (ok__law_take (P := P) (w := w) (base := base) T) T.m__law_take T.F__law_take.kp T.b__law_take
 have C__law_spots := Cal.of (ok__law_spots (P := P) (w := w) (base := base) T) T.m__law_spots T.F__law_spots.kp T.b__law_spots
 have C__law_bows := Cal.of (ok__law_bows (P := P) (w := w) (base := base) T) T.m__law_bows T.F__law_bows.kp T.b__law_bows
 have C__law_pairs := Cal.of (ok__law_pairs (P := P) (w := w) (base := base) T) T.m__law_pairs T.F__law_pairs.kp T.b__law_pairs
 have C__law_spoilt := Cal.of (ok__law_spoilt (P := P) (w := w) (base := base) T 12) T.m__law_spoilt T.F__law_spoilt.kp T.b__law_spoilt
 have C__law_due := Cal.of (ok__law_due (P := P) (w := w) (base := base) T) T.m__law_due T.F__law_due.kp T.b__law_due
 refine T.F_law.okM (k := 14) sc_law rfl fun cdv A outer s H E hr => ?_
 unfold b_law
 conv => arg 2; whnf
 apply mss_cons ?d1 ?d2
 case' d1 => apply ms_set (i := 1) ?d3 ?_ ?d4 ?d5 ?_ ?_
 case d3 => exact sc_law.nd
 case d4 => exact (Or.inl q223.lk)
 case' d5 => apply me_cal ?d6 ?_ ?d7 ?d8 ?_ ?_
 case d6 => exact C__law_folded
 case d7 => exact q243
 case' d8 => apply ma_2 ?d9 me_int ?_ ?_
 case d9 => exact (me_var (pvk 0 q242))
 case' d2 => apply mss_cons ?d10 ?d11
 case' d10 => apply ms_for ?_ ?_ ?d12 ?d13 ?d14 ?_
 case' d12 => apply mi_range1 ?d15 ?d16 ?d17 ?_
 case d15 => exact q226.lk
 case d16 => exact T.z_range
 case' d17 => apply ma_1 ?d18 ?_
 case' d18 => apply me_CB ?d19 fm_max ?d20 ?d21 PyProof.Rows.boot_max ?d22 ?_ ?_
 case d19 => exact (call_max2 rfl)
 case d20 => exact q225
 case d21 => exact T.z_max
 case' d22 => apply ma_2 me_int ?d23 ?_ ?_
 case' d23 => apply me_CB call_lenM fm_len ?d24 ?d25 PySem.boot_len ?d26 ?_ ?_
 case d24 => exact q224
 case d25 => exact T.z_len
 case' d26 => apply ma_1 ?d27 ?_
 case d27 => exact (me_var (pvk 1 q223))
 case' d13 => apply mg_name ?_
 case' d13 => apply pg_name (i := 2) ?d29 ?_ ?d30 ?_
 case d29 => exact sc_law.nd
 case d30 => exact (Or.inl q227.lk)
 case' d14 => apply mss_cons ?d31 ?d32
 case' d31 => apply ms_set (i := 3) ?d33 ?_ ?d34 ?d35 ?_ ?_
 case d33 => exact sc_law.nd
 case d34 => exact (Or.inl q233.lk)
 case' d35 => apply me_cal ?d36 ?_ ?d37 ?d38 ?_ ?_
 case d36 => exact C__law_box
 case d37 => exact q241
 case' d38 => apply ma_2 ?d39 ?d40 ?_ ?_
 case d39 => exact (me_var (pvk 1 q223))
 case d40 => exact (me_var (pvk 2 q227))
 case' d32 => apply mss_cons ?d41 ?d42
 case' d41 => apply ms_set (i := 4) ?d43 ?_ ?d44 ?d45 ?_ ?_
 case d43 => exact sc_law.nd
 case d44 => exact (Or.inl q236.lk)
 case' d45 => apply me_op op_addM fm_add me_int ?_
 case' d45 => apply me_cal ?d47 ?_ ?d48 ?d49 ?_ ?_
 case d47 => exact C__law_take
 case d48 => exact q234
 case' d49 => apply ma_2 ?d50 ?d51 ?_ ?_
 case d50 => exact (me_var (pvk 3 q233))
 case' d51 => apply me_ix (ix_M (hu151 hr)) fm_ix ?d52 ?d53 ?_
 case' d52 => apply me_lst ?_
 case' d52 => apply ma_2 me_int me_int ?_ ?_
 case' d53 => apply me_CTy call_int1 fm_int ?d55 ?d56 ?_ ?d57 ?_ ?_
 case d55 => exact q240
 case d56 => exact T.z_int
 case' d57 => apply ma_1 ?d58 ?_
 case' d58 => apply me_cmp ?d59 fm_eq ?d60 me_int ?_
 case d59 => exact (op_eqK (hu150 hr))
 case' d60 => apply me_cal ?d61 ?_ ?d62 ?d63 ?_ ?_
 case d61 => exact C__law_take
 case d62 => exact q234
 case' d63 => apply ma_2 ?d64 me_int ?_ ?_
 case d64 => exact (me_var (pvk 3 q233))
 case' d42 => apply mss_cons ?d65 ?d66
 case' d65 => apply ms_set (i := 5) ?d67 ?_ ?d68 ?d69 ?_ ?_
 case d67 => exact sc_law.nd
 case d68 => exact (Or.inl q229.lk)
 case' d69 => apply me_tup ?_
 case' d69 => apply ma_3 ?d71 ?d72 ?d73 ?_ ?_ ?_
 case' d71 => apply me_cal ?d74 ?_ ?d75 ?d76 ?_ ?_
 case d74 => exact C__law_spots
 case d75 => exact q237
 case' d76 => apply ma_2 ?d77 ?d78 ?_ ?_
 case d77 => exact (me_var (pvk 3 q233))
 case d78 => exact (me_var (pvk 4 q236))
 case' d72 => apply me_cal ?d79 ?_ ?d80 ?d81 ?_ ?_
 case d79 => exact C__law_bows
 case d80 => exact q238
 case' d81 => apply ma_3 ?d82 ?d83 me_int ?_ ?_ ?_
 case d82 => exact (me_var (pvk 3 q233))
 case d83 => exact (me_var (pvk 4 q236))
 case' d73 => apply me_cal ?d84 ?_ ?d85 ?d86 ?_ ?_
 case d84 => exact C__law_pairs
 case d85 => exact q239
 case' d86 => apply ma_2 ?d87 ?d88 ?_ ?_
 case d87 => exact (me_var (pvk 3 q233))
 case d88 => exact (me_var (pvk 4 q236))
 case' d66 => apply mss_cons ?d89 ?d90
 case' d89 => apply ms_if ?d91 ?d92 mss_nil
 case' d91 => apply mt_cmp op_isNotA fm_isNot ?d93 me_bl ?_
 case' d93 => apply me_cal ?d94 ?_ ?d95 ?d96 ?_ ?_
 case d94 => exact C_is_pattern
 case d95 => exact q222
 case' d96 => apply ma_1 ?d97 ?_
 case d97 => exact (me_var (pvk 5 q229))
 case' d92 => apply mss_one ?_
 case' d92 => apply ms_ret me_bl
 case' d90 => apply mss_cons ?d99 ?d100
 case' d99 => apply ms_if ?d101 ?d102 mss_nil
 case' d101 => apply mt_cmp op_gtA fm_gt ?d103 me_int ?_
 case' d103 => apply me_cal ?d104 ?_ ?d105 ?d106 ?_ ?_
 case d104 => exact C__law_take
 case d105 => exact q234
 case' d106 => apply ma_2 ?d107 me_int ?_ ?_
 case d107 => exact (me_var (pvk 3 q233))
 case' d102 => apply mss_one ?_
 case' d102 => apply ms_set (i := 5) ?d109 ?_ ?d110 ?d111 ?_ ?_
 case d109 => exact sc_law.nd
 case d110 => exact (Or.inl q229.lk)
 case' d111 => apply me_cal ?d112 ?_ ?d113 ?d114 ?_ ?_
 case d112 => exact C__law_spoilt
 case d113 => exact q235
 case' d114 => apply ma_2 ?d115 ?d116 ?_ ?_
 case d115 => exact (me_var (pvk 3 q233))
 case d116 => exact (me_var (pvk 5 q229))
 case' d100 => apply mss_cons ?d117 ?d118
 case' d117 => apply ms_set (i := 6) ?d119 ?_ ?d120 ?d121 ?_ ?_
 case d119 => exact sc_law.nd
 case d120 => exact (Or.inl q228.lk)
 case' d121 => apply me_cal ?d122 ?_ ?d123 ?d124 ?_ ?_
 case d122 => exact C_is_pattern
 case d123 => exact q222
 case' d124 => apply ma_1 ?d125 ?_
 case d125 => exact (me_var (pvk 5 q229))
 case' d118 => apply mss_one ?_
 case' d118 => apply ms_if ?d127 ?d128 mss_nil
 case' d127 => apply PW.pt ?_
 case' d127 => apply mw_or ?d130 ?d131
 case' d130 => apply mt_not ?_
 case' d130 => apply mt_val ?d133 ?_
 case' d133 => apply me_CB call_instM fm_inst ?d134 ?d135 PyProof.Rows.boot_isinstance ?d136 ?_ ?_
 case d134 => exact q232
 case d135 => exact T.z_isinstance
 case' d136 => apply ma_2 ?d137 ?d138 ?_ ?_
 case d137 => exact (me_var (pvk 6 q228))
 case' d138 => apply me_C ?d139 ?_
 case' d139 => apply pe_bltnk (v := .ty "bool") ?d140 ?d141 ?_ ?_
 case d140 => exact q231
 case d141 => exact T.z_bool
 case' d131 => apply mw_or1 ?_
 case' d131 => apply mt_cmp ?d143 fm_ne ?d144 ?d145 ?_
 case d143 => exact (op_neK (hu151 hr))
 case d144 => exact (me_var (pvk 6 q228))
 case' d145 => apply me_cal ?d146 ?_ ?d147 ?d148 ?_ ?_
 case d146 => exact C__law_due
 case d147 => exact q230
 case' d148 => apply ma_1 ?d149 ?_
 case d149 => exact (me_var (pvk 5 q229))
 case' d128 => apply mss_one ?_
 case' d128 => apply ms_ret me_bl
 case' d11 => apply mss_one ?_
 case' d11 => apply ms_ret ?_
 case' d11 => apply me_and ?d153 ?d154
 case' d153 => apply me_cmp op_isA fm_is ?d155 me_bl ?_
 case' d155 => apply me_cal ?d156 ?_ ?d157 ?d158 ?_ ?_
 case d156 => exact C_is_pattern
 case d157 => exact q222
 case' d158 => apply ma_1 ?d159 ?_
 case' d159 => apply me_tup ?_
 case' d159 => apply ma_3 ?d161 ?d162 ?d163 ?_ ?_ ?_
 case' d161 => apply me_tup ma_nil
 case' d162 => apply me_tup ma_nil
 case' d163 => apply me_tup ma_nil
 case' d154 => apply me_one ?_
 case' d154 => apply me_cmp op_isA fm_is ?d165 me_bl ?_
 case' d165 => apply me_cal ?d166 ?_ ?d167 ?d168 ?_ ?_
 case d166 => exact C_is_pattern
 case d167 => exact q222
 case' d168 => apply ma_1 me_str ?_
 all_goals (try walk_at "late")
end
end K39
set_option Elab.async false
set_option linter.all false
set_option maxRecDepth 100000
set_option maxHeartbeats 4000000
namespace K39
open PySem L2
local macro_rules | `(tactic| walk_at "e") => `(tactic| (with_reducible first
  | refine e_seq ?_ | refine e_sqN ?_ | refine e_sqR ?_ | refine e_lqN ?_ | refine e_lqR ?_ | refine e_fqR ?_ | refine e_sif ?_ | refine e_asg ?_ | refine e_nm ?_ | refine e_ret ?_ | refine e_drop ?_ | refine e_next ?_
  | refine e_c ?_ | refine e_op ?_ | refine e_un ?_ | refine e_cb ?_ | refine e_call ?_ | refine e_nil ?_ | refine e_cons ?_ | refine e_tV ?_ | refine e_eb ?_ | refine e_tAnd ?_ | refine e_tOr ?_ | refine e_tNot ?_ | refine e_and ?_ | refine e_or ?_ | refine e_not ?_ | refine e_chain ?_ | refine e_tTrue ?_
  | refine ite_t ?_ | refine ite_f ?_ | refine e_oNo ?_ | refine e_oSome ?_ | refine e_sl ?_ | refine e_comp ?_ | refine e_for ?_ | refine e_body ?_ | refine e_gnil ?_ | refine e_gcons ?_
  | (refine e_gtp ?h1 ?_; (case h1 => with_unfolding_all rfl))
  | (refine' e_var ?hv ?_; (case hv => with_unfolding_all rfl))
  | refine ite_nT ?_ | refine ite_nF ?_ | refine p_isNotTT ?_
  | refine p_addI ?_ | refine p_subI ?_ | refine p_ltI ?_ | refine p_leI ?_ | refine p_gtI ?_ | refine p_geI ?_ | refine p_eqI ?_ | refine p_neI ?_ | refine p_eqS ?_ | refine p_neS ?_ | refine p_neB ?_ | refine p_isN ?_ | refine p_isNotN ?_ | refine p_isB ?_ | refine p_neg ?_ | refine p_abs ?_ | refine p_intB ?_ | refine p_max ?_
  | refine p_lenL ?_ | refine p_lenT ?_ | refine p_slC ?_ | refine p_slT ?_
  | (refine p_ixL ?h1 ?_; (case h1 => with_unfolding_all rfl))
  | (refine p_ixT ?h1 ?_; (case h1 => with_unfolding_all rfl))
  | (refine p_mulI ?h1 ?_; (case h1 => omega))
  | (refine p_mod ?h1 ?_; (case h1 => omega))
  | (refine p_div ?h1 ?_; (case h1 => omega))
  | (refine p_pow ?h1 ?_; (case h1 => decide))
  | refine pi_non_str ?_ | refine pi_non_int ?_ | refine pi_non_tuple ?_ | refine pi_bl_str ?_ | refine pi_bl_int ?_ | refine pi_bl_bool ?_ | refine pi_bl_tuple ?_ | refine pi_int_str ?_ | refine pi_int_int ?_ | refine pi_int_bool ?_ | refine pi_int_tuple ?_ | refine pi_str_str ?_ | refine pi_str_int ?_ | refine pi_str_tuple ?_ | refine pi_tup_str ?_ | refine pi_tup_int ?_ | refine pi_tup_tuple ?_ | refine pi_lst_str ?_ | refine pi_lst_int ?_ | refine pi_lst_tuple ?_
  | (refine e_tup ⟨?h1, ?_⟩; (case h1 => decide))
  | refine e_tup ?_ | refine e_lst ?_ | refine e_lstH ?_))
local macro_rules | `(tactic| walk_at "es") => `(tactic| repeat (walk_at "e"))
def BoxAt (h : HpM) (p : Nat) (c : Int) : Prop := ∃ a b n, h[p]? = some (.lst [.int a, .int b, .int n]) ∧ 0 ≤ a ∧ 0 ≤ b ∧ b < 4000000000000000000 ∧ 0 ≤ n ∧ n ≤ c
theorem BoxAt.mono {h : HpM} {p : Nat} {c c' : Int} (b : BoxAt h p c) (hc : c ≤ c') : BoxAt h p c' := by
  obtain ⟨a, b, n, h1, h2, h3, h4, h5, h6⟩ := b
  exact ⟨a, b, n, h1, h2, h3, h4, h5, by omega⟩
theorem BoxAt.lt {h : HpM} {p : Nat} {c : Int} (b : BoxAt h p c) : p < h.length := by
  obtain ⟨a, b, n, h1, _⟩ := b
  exact (List.getElem?_eq_some_iff.mp h1).1
theorem BoxAt.app {h : HpM} {p : Nat} {c : Int} {o : List MO} (b : BoxAt h p c) : BoxAt (h ++ o) p c := by
  obtain ⟨a, b', n, h1, r⟩ := id b
  exact ⟨a, b', n, by rw [List.getElem?_append_left b.lt]; exact h1, r⟩
theorem take_ok {h : HpM} {p : Nat} {c many : Int} {R : M → HpM → Prop} (hh : BoxAt h p c) (m1 : 0 < many) (m2 : many < 1073741824) (m3 : c < 1000000000)
    (k : ∀ r h', 0 ≤ r → r < many → BoxAt h' p (c + 1) → Kp p h h' → R (.int r) h') : Ens (m__law_take [.ref p, .int many] h) R := by
  obtain ⟨a, b, n, e, ha, hb, hb2, hn, hnc⟩ := hh
  refine e_fun rfl ?_
  unfold b__law_take
  walk_at "es"
  refine p_ixR e rfl ?_
  walk_at "es"
  refine ite_b (fun _ => ?_) (fun _ => ?_)
  · walk_at "es"
    refine p_ixR e rfl ?_
    walk_at "es"
    refine p_ixR e rfl ?_
    walk_at "es"
    refine e_put (k := p) (j := 0) rfl rfl e rfl fun h1 e1 k1 => ?_
    walk_at "es"
    exact k _ _ (Int.emod_nonneg _ (by omega)) (Int.emod_lt_of_pos _ m1) ⟨_, b, n, e1, Int.ediv_nonneg ha (by omega), hb, hb2, hn, by omega⟩ k1
  · walk_at "es"
    refine p_ixR e rfl ?_
    walk_at "es"
    refine e_put (k := p) (j := 2) rfl rfl e rfl fun h1 e1 k1 => ?_
    replace e1 : h1[p]? = some (.lst [.int a, .int b, .int (n + 1)]) := e1
    walk_at "es"
    refine p_ixR e1 rfl ?_
    walk_at "es"
    refine p_ixR e1 rfl ?_
    walk_at "es"
    refine p_ixR e1 rfl ?_
    walk_at "es"
    have hm := Int.emod_lt_of_pos ((b + 3) * (48271 + (n + 1) * (n + 1))) (b := 2305843009213693921) (by decide)
    have hm0 := Int.emod_nonneg ((b + 3) * (48271 + (n + 1) * (n + 1))) (b := 2305843009213693921) (by decide)
    generalize (b + 3) * (48271 + (n + 1) * (n + 1)) % 2305843009213693921 = m at hm hm0 ⊢
    walk_at "es"
    refine p_ixR e1 rfl ?_
    walk_at "es"
    have hq := Int.emod_lt_of_pos (m * (m % 1000003 + (n + 1) * 69621 + 11)) (b := 2305843009213693907) (by decide)
    have hq0 := Int.emod_nonneg (m * (m % 1000003 + (n + 1) * 69621 + 11)) (b := 2305843009213693907) (by decide)
    generalize m * (m % 1000003 + (n + 1) * 69621 + 11) % 2305843009213693907 = m' at hq hq0 ⊢
    walk_at "es"
    exact k _ _ (Int.emod_nonneg _ (by omega)) (Int.emod_lt_of_pos _ m1) ⟨a, b, n + 1, e1, ha, hb, hb2, by omega, by omega⟩ k1
def Is {a : Type} (y : a) (h : HpM) : a → HpM → Prop := fun d h' => d = y ∧ h' = h
theorem run_of {x : Option (M × HpM)} {y : M} {h : HpM} (e : Ens x (Is y h)) : x = some (y, h) := by obtain ⟨d, h', e, rfl, rfl⟩ := e; exact e
noncomputable def sgB (c : Nat) : Bool := !decide ([c] < [97]) && !decide ([122] < [c])
noncomputable def nameB : M → Bool
  | .str z => decide (1 ≤ z.length) && (decide (z.length ≤ 8) && z.cps.toList.all sgB)
  | _ => false
theorem cps_a : (("a" : Str).cps.toList) = [97] := by decide +kernel
theorem cps_z : (("z" : Str).cps.toList) = [122] := by decide +kernel
theorem p_leS {R : M → Prop} {h : HpM} {i j : Str} (q : R (.bl (!decide (j.cps.toList < i.cps.toList)))) : Enp (opLe (.str i) (.str j) h) R := ⟨_, rfl, q⟩
theorem name_run {k : Nat} {x : M} {h : HpM} (hx : Pu k x) : m_is_name [x] h = some (.bl (nameB x), h) := by
  apply run_of
  refine e_fun rfl ?_
  unfold b_is_name
  cases x with
  | non => walk_at "es"; exact ⟨rfl, rfl⟩
  | bl _ => walk_at "es"; exact ⟨rfl, rfl⟩
  | int _ => walk_at "es"; exact ⟨rfl, rfl⟩
  | tup _ => walk_at "es"; exact ⟨rfl, rfl⟩
  | lst _ => walk_at "es"; exact ⟨rfl, rfl⟩
  | dct _ _ => cases k <;> cases hx
  | ref _ => cases k <;> cases hx
  | scr _ => cases k <;> cases hx
  | ty _ => cases k <;> cases hx
  | str z =>
    have hz := hx.len
    walk_at "es"
    refine p_lenS (by omega) ?_
    walk_at "es"
    have tail : Ens (sRet (mCB bAll (mCons (mComp [none] (iS (mVar 0)) (gNm 0) tTrueM (mChain opLe opLe (mC (.str "a")) (mVar 0) (mC (.str "z")))) mNil)) [some (.str z)] h) (FQ (Is (.bl (z.cps.toList.all sgB)) h)) := by
      walk_at "es"
      refine e_iS ?_
      walk_at "es"
      refine ⟨z, rfl, ?_, ?_⟩
      · simp; exact Nat.le_trans (show z.cps.size ≤ 100 from hz) (by decide)
      refine e_over2 (fun i acc h' => acc = ((z.cps.toList.take i).map sgB).map M.bl ∧ h' = h) ⟨by simp, rfl⟩ ?_ ?_
      · rintro i y acc h' hy ⟨rfl, rfl⟩
        rw [List.getElem?_map] at hy
        cases q : z.cps.toList[i]? with
        | none => rw [q] at hy; cases hy
        | some c =>
          rw [q] at hy
          cases hy
          rw [take_succ' q]
          walk_at "es"
          refine p_leS ?_
          walk_at "es"
          refine ite_b (fun h1 => ?_) (fun h1 => ?_)
          · walk_at "es"
            refine p_leS ?_
            refine ⟨?_, rfl⟩
            rw [cps_a] at h1
            rw [cps_z]
            have : (!decide ([c] < [97])) = true := h1
            simp [sgB, this]
          · refine ⟨?_, rfl⟩
            rw [cps_a] at h1
            have : (!decide ([c] < [97])) = false := h1
            simp [sgB, this]
      · rintro acc h' ⟨rfl, rfl⟩
        walk_at "es"
        refine p_all ?_
        walk_at "es"
        refine ⟨?_, rfl⟩
        rw [List.take_of_length_le (by simp), List.all_map]; rfl
    refine ite_b (fun h1 => ?_) (fun h1 => ?_)
    · simp only [k_LONGEST_NAME]
      walk_at "es"
      refine ite_b (fun h2 => ?_) (fun h2 => ?_)
      · walk_at "es"
        refine ⟨?_, rfl⟩
        have h1' : 1 ≤ z.length := by have := of_decide_eq_true h1; omega
        have h2' : ¬ z.length ≤ 8 := by
          have := h2; simp at this; omega
        simp [nameB, h1', h2']
      · walk_at "e"
        walk_at "e"
        have h1' : 1 ≤ z.length := by have := of_decide_eq_true h1; omega
        have h2' : z.length ≤ 8 := by
          have := h2; simp at this; omega
        have e : nameB (.str z) = z.cps.toList.all sgB := by simp [nameB, h1', h2']
        rw [e]
        exact tail
    · walk_at "es"
      refine ⟨?_, rfl⟩
      have h1' : ¬ 1 ≤ z.length := by
        have := of_decide_eq_false h1; omega
      simp [nameB, h1']
noncomputable def numB : M → Bool
  | .int _ => true
  | _ => false
theorem number_run {k : Nat} {x : M} {h : HpM} (hx : Pu k x) : m_is_number [x] h = some (.bl (numB x), h) := by
  apply run_of
  refine e_fun rfl ?_
  unfold b_is_number
  cases x with
  | non => walk_at "es"; exact ⟨rfl, rfl⟩
  | bl _ => walk_at "es"; exact ⟨rfl, rfl⟩
  | int _ => walk_at "es"; exact ⟨rfl, rfl⟩
  | tup _ => walk_at "es"; exact ⟨rfl, rfl⟩
  | lst _ => walk_at "es"; exact ⟨rfl, rfl⟩
  | str _ => walk_at "es"; exact ⟨rfl, rfl⟩
  | dct _ _ => cases k <;> cases hx
  | ref _ => cases k <;> cases hx
  | scr _ => cases k <;> cases hx
  | ty _ => cases k <;> cases hx
theorem value_run {k : Nat} {x : M} {h : HpM} (hx : Pu k x) : m_is_value [x] h = some (.bl (numB x || isTxt x), h) := by
  apply run_of
  refine e_fun rfl ?_
  unfold b_is_value
  walk_at "es"
  refine ens_eq (number_run hx) ?_
  walk_at "es"
  refine ite_b (fun h1 => ?_) (fun h1 => ?_)
  · walk_at "es"
    exact ⟨by rw [h1]; rfl, rfl⟩
  · walk_at "es"
    refine p_isStr hx ?_
    walk_at "es"
    exact ⟨by rw [h1]; rfl, rfl⟩
noncomputable def timesB : M → M → Bool
  | .int i, .int j => decide (0 ≤ i) && (decide (i ≤ j) && decide (j ≤ 6))
  | _, _ => false
theorem e_chain3 {R : M → HpM → Prop} {ρ : EnvM} {h : HpM} {ma mb mc md : FE} {f g g' : M → M → HpM → Option M} (q : Ens (ma ρ h) fun x h1 => Ens (mb ρ h1) fun y h2 => Enp (f x y h2) fun z => EB z fun k => if k = true then
    Ens (mc ρ h2) fun w h3 => Enp (g y w h3) fun z => EB z fun k => if k = true then Ens (md ρ h3) fun u h4 => Enp (g' w u h4) fun d => R d h4 else R (.bl false) h3 else R (.bl false) h2) : Ens (mChain3 f g g' ma mb mc md ρ h) R :=
  .bnd (q.mono fun x h1 q => .bnd (q.mono fun y h2 q => by
    obtain ⟨z, e, k, rfl, q⟩ := q
    rw [e, Option.bind_some]
    refine e_asB ⟨k, rfl, ?_⟩
    cases k
    · exact .ret q
    · refine .bnd (q.mono fun w h3 q => ?_)
      obtain ⟨z, e, k, rfl, q⟩ := q
      rw [e, Option.bind_some]
      refine e_asB ⟨k, rfl, ?_⟩
      cases k
      · exact .ret q
      · exact .bnd (q.mono fun u h4 q => q.map)))
theorem times_run {k k' : Nat} {x y : M} {h : HpM} (hx : Pu k x) (hy : Pu k' y) : m_are_times [x, y] h = some (.bl (timesB x y), h) := by
  apply run_of
  refine e_fun rfl ?_
  unfold b_are_times
  simp only [k_MOST_TIMES]
  walk_at "es"
  refine ens_eq (number_run hx) ?_
  walk_at "es"
  cases x with
  | int i =>
    refine ite_t ?_
    walk_at "es"
    refine ens_eq (number_run hy) ?_
    walk_at "es"
    cases y with
    | int j =>
      refine ite_t ?_
      refine e_chain3 ?_
      walk_at "es"
      refine ite_b (fun h1 => ?_) (fun h1 => ?_)
      · walk_at "es"
        refine ite_b (fun h2 => ?_) (fun h2 => ?_)
        · walk_at "es"
          exact ⟨by simp [timesB, h1, h2], rfl⟩
        · walk_at "es"
          exact ⟨by simp [timesB, h1, h2], rfl⟩
      · walk_at "es"
        exact ⟨by simp [timesB, h1], rfl⟩
    | _ => refine ite_f ?_; walk_at "es"; exact ⟨rfl, rfl⟩
  | _ => refine ite_f ?_; walk_at "es"; exact ⟨by cases y <;> rfl, rfl⟩

theorem numB_int {x : M} (h : numB x = true) : ∃ i, x = .int i := by cases x <;> first | exact ⟨_, rfl⟩ | cases h
theorem pu_at {k : Nat} {xs : List M} {i : Nat} (h : ∀ y ∈ xs, Pu k y) : Pu k (xs.getD i .non) := by
  rw [List.getD_eq_getElem?_getD]
  cases e : xs[i]? with
  | none => exact Pu.non
  | some y => exact h y (List.mem_of_getElem? e)
theorem cut1 {w : M} {ps : List M} : cutM (w :: ps) (some 1) none = ps := cut_from (xs := w :: ps) (k := 1) (by simp)
theorem p_ixE {R : M → Prop} {h : HpM} {xs : List M} {m : Int} {i : Nat} (e : ((xs.length : Int) == m) = true) (hi : (i : Int) < m) (q : R (xs.getD i .non)) : Enp (ixM (.tup xs) (.int (i : Int)) h) R := by
  have hk : i < xs.length := by have := eq_of_beq e; omega
  refine ⟨xs.getD i .non, ?_, q⟩
  show atI xs (i : Int) = _
  rw [atI_nat (show xs[i]? = some (xs.getD i .non) by rw [List.getD_eq_getElem?_getD, List.getElem?_eq_getElem hk]; rfl)]
theorem p_ix0 {R : M → Prop} {h : HpM} {xs : List M} {m : Int} (e : ((xs.length : Int) == m) = true) (hi : 0 < m) (q : R (xs.getD 0 .non)) : Enp (ixM (.tup xs) (.int 0) h) R := p_ixE (i := 0) e hi q
theorem p_ix1 {R : M → Prop} {h : HpM} {xs : List M} {m : Int} (e : ((xs.length : Int) == m) = true) (hi : 1 < m) (q : R (xs.getD 1 .non)) : Enp (ixM (.tup xs) (.int 1) h) R := p_ixE (i := 1) e hi q
theorem p_ix2 {R : M → Prop} {h : HpM} {xs : List M} {m : Int} (e : ((xs.length : Int) == m) = true) (hi : 2 < m) (q : R (xs.getD 2 .non)) : Enp (ixM (.tup xs) (.int 2) h) R := p_ixE (i := 2) e hi q
theorem p_hd {R : M → Prop} {h : HpM} {x : M} {xs : List M} (q : R x) : Enp (ixM (.tup (x :: xs)) (.int 0) h) R := by
  refine ⟨x, ?_, q⟩
  show atI (x :: xs) ((0 : Nat) : Int) = _
  rw [atI_nat (j := 0) rfl]
theorem p_cut1 {R : M → Prop} {h : HpM} {w : M} {ps : List M} (q : R (.tup ps)) : Enp (slM (.tup (w :: ps)) (some 1) none h) R := ⟨_, by show some (M.tup (cutM (w :: ps) (some 1) none)) = _; rw [cut1], q⟩
theorem len_ok {xs : List M} {P : Prop} (h : xs.length ≤ 16777216) (q : P) : xs.length ≤ 16777216 ∧ P := ⟨h, q⟩
theorem p_inW {R : M → Prop} {h : HpM} {x : M} {k : Nat} (ss : List Str) {y : M} (hy : y = .tup (ss.map M.str)) (hx : Pu k x) (q : R (.bl (inTx ss x))) : Enp (opIn x y h) R := by subst hy; exact p_inT hx q
theorem p_notInW {R : M → Prop} {h : HpM} {x : M} {k : Nat} (ss : List Str) {y : M} (hy : y = .tup (ss.map M.str)) (hx : Pu k x) (q : R (.bl (!inTx ss x))) : Enp (opNotIn x y h) R := by subst hy; exact p_notInT hx q
noncomputable def testB : Nat → M → Bool
  | 0, _ => false
  | n + 1, .tup (w :: ps) =>
    if isTx "any" w = true then ((ps.length : Int) == 0) else
    if isTx "has" w = true then ((ps.length : Int) == 1) && nameB (ps.getD 0 .non) else
    if inTx ["is", "under", "over"] w = true then ((ps.length : Int) == 2) && (nameB (ps.getD 0 .non) && (numB (ps.getD 1 .non) || isTxt (ps.getD 1 .non))) else
    if inTx ["both", "either"] w = true then ((ps.length : Int) == 2) && (testB n (ps.getD 0 .non) && testB n (ps.getD 1 .non)) else
    isTx "not" w && (((ps.length : Int) == 1) && testB n (ps.getD 0 .non))
  | _, _ => false
noncomputable def wayB : Nat → M → Bool
  | 0, _ => false
  | n + 1, .tup (w :: ps) =>
    if isTx "step" w = true then ((ps.length : Int) == 2) && ((isN (ps.getD 0 .non) || nameB (ps.getD 0 .non)) && inTx ["forth", "back", "either"] (ps.getD 1 .non)) else
    if isTx "empty" w = true then ((ps.length : Int) == 0) else
    if inTx ["then", "or"] w = true then ((ps.length : Int) == 2) && (wayB n (ps.getD 0 .non) && wayB n (ps.getD 1 .non)) else
    if isTx "again" w = true then ((ps.length : Int) == 1) && wayB n (ps.getD 0 .non) else
    isTx "many" w && (((ps.length : Int) == 3) && (timesB (ps.getD 1 .non) (ps.getD 2 .non) && wayB n (ps.getD 0 .non)))
  | _, _ => false
noncomputable def snumB (n : Int) : M → Bool
  | .int i => decide (0 ≤ i) && decide (i < n)
  | _ => false
noncomputable def spotB : M → Bool
  | .tup [a, t] => (isN a || nameB a) && testB 8 t
  | _ => false
noncomputable def bowB (n : Int) : M → Bool
  | .tup [i, j, s, w] => snumB n i && (snumB n j && (inTx ["all", "short", "plain", "any"] s && wayB 8 w))
  | _ => false
noncomputable def pairB (n : Int) : M → Bool
  | .tup [w, i, j] => isTx "unlike" w && (snumB n i && snumB n j)
  | .tup [w, i, a, j, b] => inTx ["same", "under"] w && (snumB n i && (nameB a && (snumB n j && nameB b)))
  | _ => false
noncomputable def patB : M → Bool
  | .tup [.tup as, .tup bs, .tup cs] => !((as.length : Int) == 0) && (as.all spotB && (bs.all (bowB as.length) && cs.all (pairB as.length)))
  | _ => false
theorem p_tn {R : M → Prop} {h : HpM} {xs : List M} {j : Nat} {x : M} (e : xs[j]? = some x) (q : R x) : Enp (ixM (.tup xs) (.int (j : Int)) h) R := ⟨x, by show atI xs (j : Int) = _; rw [atI_nat e], q⟩
theorem p_t1 {R : M → Prop} {h : HpM} {a b : M} {ps : List M} (q : R b) : Enp (ixM (.tup (a :: b :: ps)) (.int 1) h) R := p_tn (j := 1) rfl q
theorem p_t2 {R : M → Prop} {h : HpM} {a b c : M} {ps : List M} (q : R c) : Enp (ixM (.tup (a :: b :: c :: ps)) (.int 2) h) R := p_tn (j := 2) rfl q
theorem p_t3 {R : M → Prop} {h : HpM} {a b c d : M} {ps : List M} (q : R d) : Enp (ixM (.tup (a :: b :: c :: d :: ps)) (.int 3) h) R := p_tn (j := 3) rfl q
theorem p_t4 {R : M → Prop} {h : HpM} {a b c d e : M} {ps : List M} (q : R e) : Enp (ixM (.tup (a :: b :: c :: d :: e :: ps)) (.int 4) h) R := p_tn (j := 4) rfl q
local macro_rules | `(tactic| walk_at "x1") => `(tactic| (first | (with_reducible refine p_cut1 ?_) | walk_at "e" | (with_reducible first | refine p_t1 ?_ | refine p_t2 ?_ | refine p_t3 ?_ | refine p_t4 ?_ | refine len_ok (by simp) ?_ | refine ⟨_, rfl, ?_⟩ | refine p_hd ?_ | refine p_eqT (by assumption) (by omega) ?_ | refine p_ix0 (by assumption) (by decide) ?_ | refine p_ix1 (by assumption) (by decide) ?_ | refine p_ix2 (by assumption) (by decide) ?_ | refine ens_eq (by assumption) ?_ | refine ens_eq (name_run (by assumption)) ?_ | refine ens_eq (number_run (by assumption)) ?_ | refine ens_eq (value_run (by assumption)) ?_ | refine ens_eq (times_run (by assumption) (by assumption)) ?_) | (refine p_inW ["forth", "back", "either"] (by with_unfolding_all rfl) (by assumption) ?_) | (refine p_inW ["then", "or"] (by with_unfolding_all rfl) (by assumption) ?_) | (refine p_inW ["is", "under", "over"] (by with_unfolding_all rfl) (by assumption) ?_) | (refine p_inW ["both", "either"] (by with_unfolding_all rfl) (by assumption) ?_) | (refine p_inW ["all", "short", "plain", "any"] (by with_unfolding_all rfl) (by assumption) ?_) | (refine p_notInW ["same", "under"] (by with_unfolding_all rfl) (by assumption) ?_) | (with_reducible refine ite_b (fun _ => ?_) (fun _ => ?_)) | (refine ⟨?_, rfl⟩; simp_all [testB, wayB]; done) | (exfalso; rename_i hz; simp at hz; omega)))
local macro_rules | `(tactic| walk_at "x") => `(tactic| repeat' (walk_at "x1"))
theorem test_run : ∀ {n k : Nat} {x : M} {h : HpM}, Pu k x → k < n → k ≤ 100 → m_is_test n [x] h = some (.bl (testB n x), h)
  | 0, k, x, h, _, hk, _ => by omega
  | n + 1, k, x, h, hx, hk, hk1 => by
    apply run_of
    unfold m_is_test
    refine e_fun rfl ?_
    unfold b_is_test
    cases x with
    | dct _ _ => cases k <;> cases hx
    | ref _ => cases k <;> cases hx
    | scr _ => cases k <;> cases hx
    | ty _ => cases k <;> cases hx
    | tup xs =>
      cases xs with
      | nil =>
        walk_at "es"
        refine ite_t ?_
        walk_at "es"
        exact ⟨rfl, rfl⟩
      | cons w ps =>
        cases k with
        | zero => exact hx.zero.elim
        | succ k =>
          have hw := hx.un w List.mem_cons_self
          have hps : ∀ y ∈ ps, Pu k y := fun y hy => hx.un y (List.mem_cons_of_mem _ hy)
          have h0 : Pu k (ps.getD 0 .non) := pu_at hps
          have h1 : Pu k (ps.getD 1 .non) := pu_at hps
          have r0 := test_run (h := h) h0 (show k < n by omega) (by omega)
          have r1 := test_run (h := h) h1 (show k < n by omega) (by omega)
          clear hps hx
          walk_at "x"
    | _ => walk_at "es"; exact ⟨rfl, rfl⟩
theorem way_run : ∀ {n k : Nat} {x : M} {h : HpM}, Pu k x → k < n → k ≤ 100 → m_is_way n [x] h = some (.bl (wayB n x), h)
  | 0, k, x, h, _, hk, _ => by omega
  | n + 1, k, x, h, hx, hk, hk1 => by
    apply run_of
    unfold m_is_way
    refine e_fun rfl ?_
    unfold b_is_way
    cases x with
    | dct _ _ => cases k <;> cases hx
    | ref _ => cases k <;> cases hx
    | scr _ => cases k <;> cases hx
    | ty _ => cases k <;> cases hx
    | tup xs =>
      cases xs with
      | nil =>
        walk_at "es"
        refine ite_t ?_
        walk_at "es"
        exact ⟨rfl, rfl⟩
      | cons w ps =>
        cases k with
        | zero => exact hx.zero.elim
        | succ k =>
          have hw := hx.un w List.mem_cons_self
          have hps : ∀ y ∈ ps, Pu k y := fun y hy => hx.un y (List.mem_cons_of_mem _ hy)
          have h0 : Pu k (ps.getD 0 .non) := pu_at hps
          have h1 : Pu k (ps.getD 1 .non) := pu_at hps
          have h2 : Pu k (ps.getD 2 .non) := pu_at hps
          have r0 := way_run (h := h) h0 (show k < n by omega) (by omega)
          have r1 := way_run (h := h) h1 (show k < n by omega) (by omega)
          clear hps hx
          walk_at "x"
    | _ => walk_at "es"; exact ⟨rfl, rfl⟩
theorem all_run {xs : List M} {h : HpM} {τ : EnvM} {e : FE} {V : List M → HpM → Prop} (f : M → Bool) (he : ∀ x ∈ xs, Ens (e (τ.set 0 (some x)) h) (Is (.bl (f x)) h))
    (q : V ((xs.map f).map M.bl) h) : Ens (mComps xs none (gNm 0) tTrueM e τ xs h) V := by
  refine e_over2 (fun i acc h' => acc = ((xs.take i).map f).map M.bl ∧ h' = h) ⟨by simp, rfl⟩ ?_ ?_
  · rintro i y acc h' hy ⟨rfl, rfl⟩
    walk_at "es"
    refine (he y (List.mem_of_getElem? hy)).mono ?_
    rintro d h'' ⟨rfl, rfl⟩
    exact ⟨by rw [take_succ' hy]; simp, rfl⟩
  · rintro acc h' ⟨rfl, rfl⟩
    rw [List.take_of_length_le (Nat.le_refl _)]
    exact q
theorem all_id {f : M → Bool} (xs : List M) : (xs.map f).all id = xs.all f := by rw [List.all_map]; rfl
theorem tup_some {x : M} {xs : List M} (h : tupOf x = some xs) : x = .tup xs := by cases x <;> first | (cases h; rfl) | cases h
theorem p_isTupN {R : M → Prop} {h : HpM} {k : Nat} {x : M} (hx : Pu k x) (e : tupOf x = none) (q : R (.bl false)) : Enp (bInst [x, .ty "tuple"] h) R := p_isTup hx (by rw [e]; exact q)
theorem ite_T {A B : Prop} {c : Bool} (e : c = true) (q : A) : if c = true then A else B := by rw [if_pos e]; exact q
theorem ite_F {A B : Prop} {c : Bool} (e : c = false) (q : B) : if c = true then A else B := by rw [if_neg (by rw [e]; decide)]; exact q

theorem snum_run {k : Nat} {x : M} {n : Int} {h : HpM} (hx : Pu k x) : m_is_spot_number [x, .int n] h = some (.bl (snumB n x), h) := by
  apply run_of
  refine e_fun rfl ?_
  unfold b_is_spot_number
  walk_at "es"
  refine ens_eq (number_run hx) ?_
  walk_at "es"
  refine ite_b (fun q => ?_) (fun q => ?_)
  · obtain ⟨i, rfl⟩ := numB_int q
    walk_at "es"
    refine ite_b (fun q => ?_) (fun q => ?_)
    · walk_at "es"; exact ⟨by simp [snumB, q], rfl⟩
    · walk_at "es"; exact ⟨by simp [snumB, q], rfl⟩
  · refine ⟨?_, rfl⟩
    cases x <;> first | rfl | cases q
theorem of2 {xs : List M} (q : ((xs.length : Int) != 2) = false) : ∃ a b, xs = [a, b] := by
  match xs, q with
  | [a, b], _ => exact ⟨a, b, rfl⟩
  | [], q => simp at q
  | [_], q => simp at q
  | _ :: _ :: _ :: _, q => simp at q; omega
theorem of3 {xs : List M} (q : ((xs.length : Int) != 3) = false) : ∃ a b c, xs = [a, b, c] := by
  match xs, q with
  | [a, b, c], _ => exact ⟨a, b, c, rfl⟩
  | [], q => simp at q
  | [_], q => simp at q
  | [_, _], q => simp at q
  | _ :: _ :: _ :: _ :: _, q => simp at q; omega
theorem of4 {xs : List M} (q : ((xs.length : Int) != 4) = false) : ∃ a b c d, xs = [a, b, c, d] := by
  match xs, q with
  | [a, b, c, d], _ => exact ⟨a, b, c, d, rfl⟩
  | [], q => simp at q
  | [_], q => simp at q
  | [_, _], q => simp at q
  | [_, _, _], q => simp at q
  | _ :: _ :: _ :: _ :: _ :: _, q => simp at q; omega
theorem of5 {xs : List M} (q : ((xs.length : Int) != 5) = false) : ∃ a b c d e, xs = [a, b, c, d, e] := by
  match xs, q with
  | [a, b, c, d, e], _ => exact ⟨a, b, c, d, e, rfl⟩
  | [], q => simp at q
  | [_], q => simp at q
  | [_, _], q => simp at q
  | [_, _, _], q => simp at q
  | [_, _, _, _], q => simp at q
  | _ :: _ :: _ :: _ :: _ :: _ :: _, q => simp at q; omega
theorem spotB_ne {xs : List M} (q : ((xs.length : Int) != 2) = true) : spotB (.tup xs) = false := by
  match xs, q with
  | [a, b], q => simp at q
  | [], q => rfl
  | [_], q => rfl
  | _ :: _ :: _ :: _, q => rfl
theorem bowB_ne {n : Int} {xs : List M} (q : ((xs.length : Int) != 4) = true) : bowB n (.tup xs) = false := by
  match xs, q with
  | [a, b, c, d], q => simp at q
  | [], q => rfl
  | [_], q => rfl
  | [_, _], q => rfl
  | [_, _, _], q => rfl
  | _ :: _ :: _ :: _ :: _ :: _, q => rfl
theorem patB_ne {xs : List M} (q : ((xs.length : Int) != 3) = true) : patB (.tup xs) = false := by
  unfold patB
  split
  · rename_i e; cases e; simp at q
  · rfl
theorem pairB_ne {n : Int} {xs : List M} (q : ((xs.length : Int) != 3) = true) (q5 : ((xs.length : Int) != 5) = true) : pairB n (.tup xs) = false := by
  match xs, q, q5 with
  | [a, b, c], q, _ => simp at q
  | [a, b, c, d, e], _, q => simp at q
  | [], _, _ => rfl
  | [_], _, _ => rfl
  | [_, _], _, _ => rfl
  | [_, _, _, _], _, _ => rfl
  | _ :: _ :: _ :: _ :: _ :: _ :: _, _, _ => rfl
theorem spot_run {k : Nat} {x : M} {h : HpM} (hx : Pu k x) (hk : k < 9) : m_is_spot [x] h = some (.bl (spotB x), h) := by
  apply run_of
  refine e_fun rfl ?_
  unfold b_is_spot
  cases x with
  | dct _ _ => cases k <;> cases hx
  | ref _ => cases k <;> cases hx
  | scr _ => cases k <;> cases hx
  | ty _ => cases k <;> cases hx
  | tup xs =>
    cases k with
    | zero => exact hx.zero.elim
    | succ k =>
      walk_at "es"
      refine ite_b (fun q => ?_) (fun q => ?_)
      · walk_at "es"; exact ⟨by rw [spotB_ne q], rfl⟩
      · obtain ⟨a, b, rfl⟩ := of2 q
        have ha := hx.un a (by simp)
        have hb := hx.un b (by simp)
        have r := test_run (h := h) hb (show k < 8 by omega) (by omega)
        walk_at "x"
        all_goals (refine ⟨?_, rfl⟩; simp_all [spotB]; done)
  | _ => walk_at "es"; exact ⟨rfl, rfl⟩
theorem bow_run {k : Nat} {x : M} {n : Int} {h : HpM} (hx : Pu k x) (hk : k < 9) : m_is_bow [x, .int n] h = some (.bl (bowB n x), h) := by
  apply run_of
  refine e_fun rfl ?_
  unfold b_is_bow
  cases x with
  | dct _ _ => cases k <;> cases hx
  | ref _ => cases k <;> cases hx
  | scr _ => cases k <;> cases hx
  | ty _ => cases k <;> cases hx
  | tup xs =>
    cases k with
    | zero => exact hx.zero.elim
    | succ k =>
      walk_at "es"
      refine ite_b (fun q => ?_) (fun q => ?_)
      · walk_at "es"; exact ⟨by rw [bowB_ne q], rfl⟩
      · obtain ⟨a, b, c, d, rfl⟩ := of4 q
        have ha := hx.un a (by simp)
        have hb := hx.un b (by simp)
        have hc := hx.un c (by simp)
        have hd := hx.un d (by simp)
        have ra := snum_run (h := h) (n := n) ha
        have rb := snum_run (h := h) (n := n) hb
        have rd := way_run (h := h) hd (show k < 8 by omega) (by omega)
        clear hx q
        walk_at "x"
        all_goals (refine ⟨?_, rfl⟩; simp_all [bowB]; done)
  | _ => walk_at "es"; exact ⟨rfl, rfl⟩
theorem pair_run {k : Nat} {x : M} {n : Int} {h : HpM} (hx : Pu k x) (hk : k < 9) : m_is_pair [x, .int n] h = some (.bl (pairB n x), h) := by
  apply run_of
  refine e_fun rfl ?_
  unfold b_is_pair
  cases x with
  | dct _ _ => cases k <;> cases hx
  | ref _ => cases k <;> cases hx
  | scr _ => cases k <;> cases hx
  | ty _ => cases k <;> cases hx
  | tup xs =>
    cases xs with
    | nil =>
      walk_at "es"
      refine ite_t ?_
      walk_at "es"
      exact ⟨rfl, rfl⟩
    | cons w ps =>
      cases k with
      | zero => exact hx.zero.elim
      | succ k =>
        have hw := hx.un w List.mem_cons_self
        have h1 : Pu k ((w :: ps).getD 1 .non) := pu_at hx.un
        have h2 : Pu k ((w :: ps).getD 2 .non) := pu_at hx.un
        have r1 := snum_run (h := h) (n := n) h1
        have r2 := snum_run (h := h) (n := n) h2
        walk_at "es"
        refine ite_b (fun q => ?_) (fun _ => ?_)
        · exfalso; simp at q; omega
        walk_at "es"
        refine p_hd ?_
        walk_at "es"
        refine p_eqT hw (by omega) ?_
        walk_at "es"
        refine ite_b (fun qu => ?_) (fun qu => ?_)
        · walk_at "es"
          refine ite_b (fun q => ?_) (fun q => ?_)
          · obtain ⟨a, b, c, e⟩ := of3 (show (((w :: ps).length : Int) != 3) = false by simpa using q)
            cases e
            have hb := hx.un b (by simp)
            have hc := hx.un c (by simp)
            have rb := snum_run (h := h) (n := n) hb
            have rc := snum_run (h := h) (n := n) hc
            clear r1 r2 h1 h2 hx
            walk_at "x"
            all_goals (refine ⟨?_, rfl⟩; simp_all [pairB]; done)
          · walk_at "es"
            refine ⟨?_, rfl⟩
            by_cases h5 : (((w :: ps).length : Int) != 5) = true
            · rw [pairB_ne (by simpa using q) h5]
            · obtain ⟨a, b, c, d, e, er⟩ := of5 (show (((w :: ps).length : Int) != 5) = false by simpa using h5)
              cases er
              have : inTx ["same", "under"] w = false := by
                cases w with
                | str z =>
                  have e := eq_of_beq qu
                  subst e
                  decide +kernel
                | _ => rfl
              simp [pairB, this]
        walk_at "es"
        refine p_hd ?_
        walk_at "es"
        refine len_ok (by simp) ?_
        refine p_notInW ["same", "under"] (by with_unfolding_all rfl) hw ?_
        walk_at "es"
        have un3 : ∀ a b c, w :: ps = [a, b, c] → isTx "unlike" a = false := fun a b c e => by cases e; exact qu
        refine ite_b (fun q => ?_) (fun q => ?_)
        · walk_at "es"
          refine ⟨?_, rfl⟩
          by_cases h3 : (((w :: ps).length : Int) != 3) = true
          · by_cases h5 : (((w :: ps).length : Int) != 5) = true
            · rw [pairB_ne h3 h5]
            · obtain ⟨a, b, c, d, e, er⟩ := of5 (show (((w :: ps).length : Int) != 5) = false by simpa using h5)
              cases er
              have : inTx ["same", "under"] w = false := by simpa using q
              simp [pairB, this]
          · obtain ⟨a, b, c, e⟩ := of3 (show (((w :: ps).length : Int) != 3) = false by simpa using h3)
            cases e
            simp [pairB, qu]
        walk_at "es"
        refine ite_b (fun h5 => ?_) (fun h5 => ?_)
        · walk_at "es"
          refine ⟨?_, rfl⟩
          by_cases h3 : (((w :: ps).length : Int) != 3) = true
          · rw [pairB_ne h3 h5]
          · obtain ⟨a, b, c, e⟩ := of3 (show (((w :: ps).length : Int) != 3) = false by simpa using h3)
            cases e
            simp [pairB, qu]
        · obtain ⟨a, b, c, d, e, rr⟩ := of5 h5
          cases rr
          have hb := hx.un b (by simp)
          have hc := hx.un c (by simp)
          have hd := hx.un d (by simp)
          have he := hx.un e (by simp)
          have rb := snum_run (h := h) (n := n) hb
          have rd := snum_run (h := h) (n := n) hd
          have q' : inTx ["same", "under"] w = true := by simpa using q
          clear hx q r1 r2 h1 h2 h5 un3
          walk_at "x"
          all_goals (refine ⟨?_, rfl⟩; simp_all [pairB]; done)
  | _ => walk_at "es"; exact ⟨rfl, rfl⟩
theorem patB_no {a b c : M} (h : tupOf a = none ∨ tupOf b = none ∨ tupOf c = none) : patB (.tup [a, b, c]) = false := by
  unfold patB
  split
  · rename_i e
    cases e
    rcases h with h | h | h <;> cases h
  · rfl
theorem pat_run {k : Nat} {x : M} {h : HpM} (hx : Pu k x) (hk : k < 9) : m_is_pattern [x] h = some (.bl (patB x), h) := by
  apply run_of
  refine e_fun rfl ?_
  unfold b_is_pattern
  cases x with
  | dct _ _ => cases k <;> cases hx
  | ref _ => cases k <;> cases hx
  | scr _ => cases k <;> cases hx
  | ty _ => cases k <;> cases hx
  | tup xs =>
    cases k with
    | zero => exact hx.zero.elim
    | succ k =>
      walk_at "es"
      refine ite_b (fun q => ?_) (fun q => ?_)
      · walk_at "es"; exact ⟨by rw [patB_ne q], rfl⟩
      · obtain ⟨a, b, c, rfl⟩ := of3 q
        have ha := hx.un a (by simp)
        have hb := hx.un b (by simp)
        have hc := hx.un c (by simp)
        cases ea : tupOf a with
        | none =>
          walk_at "es"
          refine p_isTupN ha ea ?_
          walk_at "es"
          exact ⟨by rw [patB_no (.inl ea)], rfl⟩
        | some as =>
          cases tup_some ea
          cases eb : tupOf b with
          | none =>
            walk_at "es"
            refine p_isTupN hb eb ?_
            walk_at "es"
            exact ⟨by rw [patB_no (.inr (.inl eb))], rfl⟩
          | some bs =>
            cases tup_some eb
            cases ec : tupOf c with
            | none =>
              walk_at "es"
              refine p_isTupN hc ec ?_
              walk_at "es"
              exact ⟨by rw [patB_no (.inr (.inr ec))], rfl⟩
            | some cs =>
              cases tup_some ec
              cases k with
              | zero => exact ha.zero.elim
              | succ k =>
                walk_at "es"
                refine ite_b (fun q => ?_) (fun q => ?_)
                · walk_at "es"; exact ⟨by simp only [patB]; rw [q]; rfl, rfl⟩
                walk_at "es"
                refine e_iT ?_
                walk_at "es"
                refine ⟨as, rfl, Nat.le_trans ha.tupl (by decide), all_run spotB (fun x hx => ?_) ?_⟩
                · walk_at "es"
                  exact ens_eq (spot_run (ha.un x hx) (by omega)) ⟨rfl, rfl⟩
                walk_at "es"
                refine p_all ?_
                rw [all_id]
                walk_at "es"
                refine ite_b (fun q1 => ?_) (fun q1 => ?_)
                · walk_at "es"
                  have q1' : as.all spotB = false := by simpa using q1
                  exact ⟨by simp only [patB]; rw [q1']; simp, rfl⟩
                have q1' : as.all spotB = true := by simpa using q1
                walk_at "es"
                refine e_iT ?_
                walk_at "es"
                refine ⟨bs, rfl, Nat.le_trans hb.tupl (by decide), all_run (bowB as.length) (fun x hx => ?_) ?_⟩
                · walk_at "es"
                  exact ens_eq (bow_run (hb.un x hx) (by omega)) ⟨rfl, rfl⟩
                walk_at "es"
                refine p_all ?_
                rw [all_id]
                walk_at "es"
                refine ite_b (fun q2 => ?_) (fun q2 => ?_)
                rotate_left
                · walk_at "es"
                  exact ⟨by simp only [patB]; rw [q, q1', q2]; rfl, rfl⟩
                walk_at "es"
                refine e_iT ?_
                walk_at "es"
                refine ⟨cs, rfl, Nat.le_trans hc.tupl (by decide), all_run (pairB as.length) (fun x hx => ?_) ?_⟩
                · walk_at "es"
                  exact ens_eq (pair_run (hc.un x hx) (by omega)) ⟨rfl, rfl⟩
                walk_at "es"
                refine p_all ?_
                rw [all_id]
                walk_at "es"
                exact ⟨by simp only [patB]; rw [q, q1', q2]; rfl, rfl⟩
  | _ => walk_at "es"; exact ⟨rfl, rfl⟩
theorem e_loopN {xs : List M} {bd : M → FS} {ρ : EnvM} {h : HpM} {S : Out → HpM → Prop} (q : S (.nx ρ) h) : Ens (mLoop xs none bd [] ρ h) S := by
  unfold mLoop
  rw [if_pos (show okS xs none h from trivial)]
  exact .ret q
theorem e_loopC {xs : List M} {bd : M → FS} {x : M} {r : List M} {ρ : EnvM} {h : HpM} {S : Out → HpM → Prop} (q : Ens (bd x ρ h) (LQ (fun ρ' h' => Ens (mLoop xs none bd r ρ' h') S) S)) : Ens (mLoop xs none bd (x :: r) ρ h) S := by
  unfold mLoop
  rw [if_pos (show okS xs none h from trivial)]
  refine .bnd (q.mono fun o h1 q => ?_)
  cases o with
  | nx ρ' => exact q
  | ct ρ' => exact q
  | bk ρ' => exact .ret q
  | rt d => exact .ret q
theorem e_forall {xs : List M} {bd : M → FS} {h : HpM} {S : Out → HpM → Prop} (f : M → Bool) (I : EnvM → Prop) (ys : List M)
    (hs : ∀ x ∈ ys, ∀ ρ, I ρ → Ens (bd x ρ h) fun o h' => h' = h ∧ if f x = true then ∃ ρ', o = .nx ρ' ∧ I ρ' else o = .rt (.bl false))
    (qt : ys.all f = true → ∀ ρ, I ρ → S (.nx ρ) h) (qf : ys.all f = false → S (.rt (.bl false)) h) : ∀ {ρ : EnvM}, I ρ → Ens (mLoop xs none bd ys ρ h) S := by
  induction ys with
  | nil => intro ρ hI; exact e_loopN (qt rfl ρ hI)
  | cons y ys ih =>
    intro ρ hI
    refine e_loopC ((hs y List.mem_cons_self ρ hI).mono ?_)
    rintro o h' ⟨rfl, q⟩
    by_cases hf : f y = true
    · rw [if_pos hf] at q
      obtain ⟨ρ', rfl, hI'⟩ := q
      exact ih (fun x hx => hs x (List.mem_cons_of_mem _ hx)) (fun ha => qt (by rw [List.all_cons, hf, ha]; rfl)) (fun ha => qf (by rw [List.all_cons, hf, ha]; rfl)) hI'
    · rw [if_neg hf] at q
      subst q
      exact qf (by rw [List.all_cons]; simp [hf])
noncomputable def alph : Str := "abcdefghijklmnopqrstuvwxyz"
theorem alph_cps : alph.cps.toList = [97, 98, 99, 100, 101, 102, 103, 104, 105, 106, 107, 108, 109, 110, 111, 112, 113, 114, 115, 116, 117, 118, 119, 120, 121, 122] := by decide +kernel
theorem sg_in (c : Nat) : alph.cps.toList.contains c = sgB c := by
  rw [alph_cps]
  by_cases h : c < 123
  · revert c
    decide +kernel
  · have h1 : sgB c = false := by
      have : ([122] : List Nat) < [c] := by
        apply List.Lex.rel; omega
      simp [sgB, this]
    rw [h1]
    simp only [List.contains_eq_mem, decide_eq_false_iff_not]
    simp only [List.mem_cons, List.not_mem_nil, or_false, not_or]
    omega
theorem p_inSg {R : M → Prop} {h : HpM} {c : Nat} (q : R (.bl (sgB c))) : Enp (opIn (.str ⟨#[c]⟩) (.str "abcdefghijklmnopqrstuvwxyz") h) R := by
  refine ⟨.bl (subIn ⟨#[c]⟩ alph), rfl, ?_⟩
  rw [subIn_sign, sg_in]; exact q
theorem lnum_run {k : Nat} {x : M} {h : HpM} (hx : Pu k x) : m__law_number [x] h = some (.bl (numB x), h) := number_run hx
theorem lname_run {k : Nat} {x : M} {h : HpM} (hx : Pu k x) : m__law_name [x] h = some (.bl (nameB x), h) := by
  apply run_of
  refine e_fun rfl ?_
  unfold b__law_name
  cases x with
  | non => walk_at "es"; exact ⟨rfl, rfl⟩
  | bl _ => walk_at "es"; exact ⟨rfl, rfl⟩
  | int _ => walk_at "es"; exact ⟨rfl, rfl⟩
  | tup _ => walk_at "es"; exact ⟨rfl, rfl⟩
  | lst _ => walk_at "es"; exact ⟨rfl, rfl⟩
  | dct _ _ => cases k <;> cases hx
  | ref _ => cases k <;> cases hx
  | scr _ => cases k <;> cases hx
  | ty _ => cases k <;> cases hx
  | str z =>
    have hz := hx.len
    walk_at "es"
    refine p_lenS (by omega) ?_
    walk_at "es"
    refine ite_b (fun h1 => ?_) (fun h1 => ?_)
    · walk_at "es"
      refine ⟨?_, rfl⟩
      have h1' : ¬ 1 ≤ z.length := by have := of_decide_eq_true h1; omega
      simp [nameB, h1']
    walk_at "es"
    refine p_lenS (by omega) ?_
    walk_at "es"
    have h1' : 1 ≤ z.length := by have := of_decide_eq_false h1; omega
    refine ite_b (fun h2 => ?_) (fun h2 => ?_)
    · walk_at "es"
      refine ⟨?_, rfl⟩
      have h2' : ¬ z.length ≤ 8 := by have := of_decide_eq_true h2; omega
      simp [nameB, h1', h2']
    have h2' : z.length ≤ 8 := by have := of_decide_eq_false h2; omega
    have e : nameB (.str z) = z.cps.toList.all sgB := by simp [nameB, h1', h2']
    rw [e]
    walk_at "es"
    refine e_iS ?_
    walk_at "es"
    refine ⟨z, rfl, ?_, ?_⟩
    · simp; exact Nat.le_trans (show z.cps.size ≤ 100 from hz) (by decide)
    refine e_over2 (fun i acc h' => acc = ((z.cps.toList.take i).map sgB).map M.bl ∧ h' = h) ⟨by simp, rfl⟩ ?_ ?_
    · rintro i y acc h' hy ⟨rfl, rfl⟩
      rw [List.getElem?_map] at hy
      cases q : z.cps.toList[i]? with
      | none => rw [q] at hy; cases hy
      | some c =>
        rw [q] at hy
        cases hy
        rw [take_succ' q]
        walk_at "es"
        refine p_inSg ?_
        exact ⟨by simp, rfl⟩
    · rintro acc h' ⟨rfl, rfl⟩
      walk_at "es"
      refine p_all ?_
      walk_at "es"
      refine ⟨?_, rfl⟩
      rw [List.take_of_length_le (by simp), List.all_map]; rfl
theorem p_eqNil {R : M → Prop} {h : HpM} {k : Nat} {x : M} {xs : List M} (hx : Pu k (.tup (x :: xs))) (hk : k ≤ 150) (q : R (.bl false)) : Enp (opEq (.tup (x :: xs)) (.tup []) h) R := by
  obtain ⟨d, e, dd, ds, rfl⟩ := hx.toD h
  refine ⟨.bl false, ?_, q⟩
  have e' : (toDBs (lookD h 20) (x :: xs)).map D.tup = some (.tup ds) := e
  obtain ⟨ds', e1, e2⟩ := Option.map_eq_some_iff.mp e'
  cases e2
  unfold toDBs at e1
  obtain ⟨d0, e3, e4⟩ := Option.bind_eq_some_iff.mp e1
  obtain ⟨ds2, e5, rfl⟩ := Option.map_eq_some_iff.mp e4
  unfold opEq
  rw [e, Option.bind_some]
  show (if (D.tup (d0 :: ds2)).deep ≤ 150 then some (M.bl (deq (D.tup (d0 :: ds2)) (D.tup []))) else none) = _
  rw [if_pos (by omega)]
  rfl
theorem p_eqNil0 {R : M → Prop} {h : HpM} (q : R (.bl true)) : Enp (opEq (.tup []) (.tup []) h) R := ⟨_, rfl, q⟩
noncomputable def wordB (kvs : List (Key × M)) : M → Bool
  | .tup (.str w :: ps) => (match valM kvs (.inr w) with | some (.int l) => (((M.str w :: ps).length : Int) == l) | _ => false)
  | _ => false
theorem p_inDct {R : M → Prop} {h : HpM} {ks : List Key} {xs : List M} {w : Str} (hl : ks.length = xs.length) (q : R (.bl (valM (ks.zip xs) (.inr w)).isSome)) : Enp (opIn (.str w) (.dct ks xs) h) R :=
  ⟨_, by unfold opIn; rw [show dctOf h (.dct ks xs) = some (ks.zip xs) from if_pos hl]; rfl, q⟩
theorem p_ixDct {R : M → Prop} {h : HpM} {ks : List Key} {xs : List M} {w : Str} {d : M} (hl : ks.length = xs.length) (e : valM (ks.zip xs) (.inr w) = some d) (q : R d) : Enp (ixM (.dct ks xs) (.str w) h) R :=
  ⟨d, by unfold ixM; rw [show dctOf h (.dct ks xs) = some (ks.zip xs) from if_pos hl]; exact e, q⟩
theorem valM_mem {kvs : List (Key × M)} {k : Key} {m : M} (e : valM kvs k = some m) : (k, m) ∈ kvs := by
  unfold valM at e
  obtain ⟨p, e1, rfl⟩ := Option.map_eq_some_iff.mp e
  have h1 := List.mem_of_find?_eq_some e1
  have h2 := List.find?_some e1
  have h3 : p.1 = k := of_decide_eq_true h2
  rw [← h3]; exact h1
theorem valM_cons {k k' : Key} {m : M} {r : List (Key × M)} : valM ((k, m) :: r) k' = if k = k' then some m else valM r k' := by
  unfold valM
  rw [List.find?_cons]
  by_cases h : k = k'
  · simp [h]
  · simp [h]
theorem merge_snoc {kvs : List (Key × M)} {k : Key} {m : M} (h : k ∉ kvs.map (·.1)) : putM kvs k m = kvs ++ [(k, m)] := by
  unfold putM
  rw [if_neg]
  intro ha
  obtain ⟨p, hp, e⟩ := List.any_eq_true.mp ha
  exact h (List.mem_map.mpr ⟨p, hp, of_decide_eq_true e⟩)
theorem merge_nodup : ∀ {more kvs : List (Key × M)}, ((kvs ++ more).map (·.1)).Nodup → mergeM kvs more = kvs ++ more
  | [], kvs, _ => by simp [mergeM]
  | p :: more, kvs, h => by
    have h1 : p.1 ∉ kvs.map (·.1) := by
      intro hm
      rw [List.map_append, List.nodup_append] at h
      exact h.2.2 p.1 hm p.1 (by simp) rfl
    show mergeM (putM kvs p.1 p.2) more = _
    rw [merge_snoc h1, merge_nodup (by simpa using h)]
    simp
theorem e_dspN {R : M → HpM → Prop} {ρ : EnvM} {h : HpM} {mas : FA} (kvs : List (Key × M)) (q : Ens (mas ρ h) fun xs h1 => keyed xs = some kvs ∧ kvs.length ≤ 15 ∧ (kvs.map (·.1)).Nodup ∧ R (.dct (kvs.map (·.1)) (kvs.map (·.2))) h1) : Ens (mDsp mas ρ h) R :=
  e_dsp (q.mono (by rintro xs h1 ⟨a, b, c, d⟩; exact ⟨kvs, a, b, by rw [merge_nodup (kvs := []) (by simpa using c)]; exact d⟩))
theorem zip_fst_snd (kvs : List (Key × M)) : (kvs.map (·.1)).zip (kvs.map (·.2)) = kvs := by
  induction kvs with
  | nil => rfl
  | cons p r ih => simp [ih]
theorem worded_run {k : Nat} {x : M} {h : HpM} {kvs : List (Key × M)} (hx : Pu k x) (hk : k ≤ 150) (hi : ∀ p ∈ kvs, ∃ l, p.2 = .int l) : m__law_worded [x, .dct (kvs.map (·.1)) (kvs.map (·.2))] h = some (.bl (wordB kvs x), h) := by
  apply run_of
  refine e_fun rfl ?_
  unfold b__law_worded
  cases x with
  | dct _ _ => cases k <;> cases hx
  | ref _ => cases k <;> cases hx
  | scr _ => cases k <;> cases hx
  | ty _ => cases k <;> cases hx
  | tup xs =>
    cases xs with
    | nil =>
      walk_at "es"
      refine len_ok (by simp) ?_
      walk_at "es"
      refine p_eqNil0 ?_
      walk_at "es"
      exact ⟨rfl, rfl⟩
    | cons w ps =>
      cases k with
      | zero => exact hx.zero.elim
      | succ k =>
        have hw := hx.un w List.mem_cons_self
        walk_at "es"
        refine len_ok (by simp) ?_
        walk_at "es"
        refine p_eqNil hx hk ?_
        walk_at "es"
        refine p_hd ?_
        walk_at "es"
        refine p_isStr hw ?_
        walk_at "es"
        refine ite_b (fun q => ?_) (fun q => ?_)
        · walk_at "es"
          refine ⟨?_, rfl⟩
          cases w <;> first | rfl | cases q
        cases w with
        | str z =>
          walk_at "es"
          refine p_hd ?_
          walk_at "es"
          refine p_inDct (by simp) ?_
          rw [zip_fst_snd]
          walk_at "es"
          refine ite_b (fun q => ?_) (fun q => ?_)
          · obtain ⟨m, hm⟩ := Option.isSome_iff_exists.mp q
            obtain ⟨l, hl⟩ := hi _ (valM_mem hm)
            have hl' : m = .int l := hl
            subst hl'
            walk_at "es"
            refine p_hd ?_
            walk_at "es"
            refine p_ixDct (by simp) (by rw [zip_fst_snd]; exact hm) ?_
            walk_at "es"
            refine ⟨?_, rfl⟩
            simp only [wordB, hm]
          · refine ⟨?_, rfl⟩
            have : valM kvs (.inr z) = none := by simpa using q
            simp only [wordB, this]
        | _ => cases q
  | _ => walk_at "es"; exact ⟨rfl, rfl⟩
theorem word_inv {kvs : List (Key × M)} {x : M} (h : wordB kvs x = true) : ∃ w ps l, x = .tup (.str w :: ps) ∧ valM kvs (.inr w) = some (.int l) ∧ (((M.str w :: ps).length : Int) == l) = true := by
  unfold wordB at h
  split at h
  · split at h
    · rename_i w ps _ l e
      exact ⟨w, ps, l, rfl, e, h⟩
    · cases h
  · cases h
theorem valM_inv {k k' : Key} {m m' : M} {r : List (Key × M)} (e : valM ((k, m) :: r) k' = some m') : (k = k' ∧ m = m') ∨ valM r k' = some m' := by
  rw [valM_cons] at e
  split at e
  · rename_i h; cases e; exact .inl ⟨h, rfl⟩
  · exact .inr e
theorem len0 {x : M} {ps : List M} (h : (((x :: ps).length : Int) == 1) = true) : ps = [] := by
  cases ps with
  | nil => rfl
  | cons _ _ => simp at h; omega
theorem len1 {x : M} {ps : List M} (h : (((x :: ps).length : Int) == 2) = true) : ∃ a, ps = [a] := by
  match ps, h with
  | [a], _ => exact ⟨a, rfl⟩
  | [], h => simp at h
  | _ :: _ :: _, h => simp at h; omega
theorem len2 {x : M} {ps : List M} (h : (((x :: ps).length : Int) == 3) = true) : ∃ a b, ps = [a, b] := by
  match ps, h with
  | [a, b], _ => exact ⟨a, b, rfl⟩
  | [], h => simp at h
  | [_], h => simp at h
  | _ :: _ :: _ :: _, h => simp at h; omega
theorem len3 {x : M} {ps : List M} (h : (((x :: ps).length : Int) == 4) = true) : ∃ a b c, ps = [a, b, c] := by
  match ps, h with
  | [a, b, c], _ => exact ⟨a, b, c, rfl⟩
  | [], h => simp at h
  | [_], h => simp at h
  | [_, _], h => simp at h
  | _ :: _ :: _ :: _ :: _, h => simp at h; omega
theorem len4 {x : M} {ps : List M} (h : (((x :: ps).length : Int) == 5) = true) : ∃ a b c d, ps = [a, b, c, d] := by
  match ps, h with
  | [a, b, c, d], _ => exact ⟨a, b, c, d, rfl⟩
  | [], h => simp at h
  | [_], h => simp at h
  | [_, _], h => simp at h
  | [_, _, _], h => simp at h
  | _ :: _ :: _ :: _ :: _ :: _, h => simp at h; omega
noncomputable def TK : List (Key × M) := [(.inr "any", .int 1), (.inr "has", .int 2), (.inr "is", .int 3), (.inr "under", .int 3), (.inr "over", .int 3), (.inr "both", .int 3), (.inr "either", .int 3), (.inr "not", .int 2)]
noncomputable def WK : List (Key × M) := [(.inr "step", .int 3), (.inr "empty", .int 1), (.inr "then", .int 3), (.inr "or", .int 3), (.inr "again", .int 2), (.inr "many", .int 4)]
noncomputable def PK : List (Key × M) := [(.inr "unlike", .int 3), (.inr "same", .int 5), (.inr "under", .int 5)]
inductive TSh : M → Prop
  | any : TSh (.tup [.str "any"])
  | has (a : M) : TSh (.tup [.str "has", a])
  | is (w : Str) (a b : M) (h : w = "is" ∨ w = "under" ∨ w = "over") : TSh (.tup [.str w, a, b])
  | both (w : Str) (a b : M) (h : w = "both" ∨ w = "either") : TSh (.tup [.str w, a, b])
  | not (a : M) : TSh (.tup [.str "not", a])
theorem tsh_of {x : M} (h : wordB TK x = true) : TSh x := by
  obtain ⟨w, ps, l, rfl, e, hl⟩ := word_inv h
  unfold TK at e
  rcases valM_inv e with ⟨ek, em⟩ | e
  · cases ek; cases em; cases len0 hl; exact .any
  rcases valM_inv e with ⟨ek, em⟩ | e
  · cases ek; cases em; obtain ⟨a, rfl⟩ := len1 hl; exact .has a
  rcases valM_inv e with ⟨ek, em⟩ | e
  · cases ek; cases em; obtain ⟨a, b, rfl⟩ := len2 hl; exact .is _ a b (.inl rfl)
  rcases valM_inv e with ⟨ek, em⟩ | e
  · cases ek; cases em; obtain ⟨a, b, rfl⟩ := len2 hl; exact .is _ a b (.inr (.inl rfl))
  rcases valM_inv e with ⟨ek, em⟩ | e
  · cases ek; cases em; obtain ⟨a, b, rfl⟩ := len2 hl; exact .is _ a b (.inr (.inr rfl))
  rcases valM_inv e with ⟨ek, em⟩ | e
  · cases ek; cases em; obtain ⟨a, b, rfl⟩ := len2 hl; exact .both _ a b (.inl rfl)
  rcases valM_inv e with ⟨ek, em⟩ | e
  · cases ek; cases em; obtain ⟨a, b, rfl⟩ := len2 hl; exact .both _ a b (.inr rfl)
  rcases valM_inv e with ⟨ek, em⟩ | e
  · cases ek; cases em; obtain ⟨a, rfl⟩ := len1 hl; exact .not a
  · cases e
theorem wordB_str {kvs : List (Key × M)} {w : Str} {ps : List M} {l : Int} (e : valM kvs (.inr w) = some (.int l)) (hl : ((ps.length : Int) + 1 = l)) : wordB kvs (.tup (.str w :: ps)) = true := by
  simp only [wordB, e]
  simp; omega
theorem tx_str {s : Str} {w : M} (h : isTx s w = true) : w = .str s := by
  cases w with
  | str z => rw [eq_of_beq h]
  | _ => cases h
theorem inTx_str {ss : List Str} {w : M} (h : inTx ss w = true) : ∃ s ∈ ss, w = .str s := by
  cases w with
  | str z =>
    obtain ⟨s, hs, e⟩ := List.any_eq_true.mp h
    exact ⟨s, hs, by rw [eq_of_beq e]⟩
  | _ => cases h
theorem l0 {ps : List M} (h : ((ps.length : Int) == 0) = true) : ps = [] := by
  cases ps with
  | nil => rfl
  | cons _ _ => simp at h; omega
theorem l1 {ps : List M} (h : ((ps.length : Int) == 1) = true) : ∃ a, ps = [a] := by
  match ps, h with
  | [a], _ => exact ⟨a, rfl⟩
  | [], h => simp at h
  | _ :: _ :: _, h => simp at h; omega
theorem l2 {ps : List M} (h : ((ps.length : Int) == 2) = true) : ∃ a b, ps = [a, b] := of2 (by simpa using h)
theorem l3 {ps : List M} (h : ((ps.length : Int) == 3) = true) : ∃ a b c, ps = [a, b, c] := of3 (by simpa using h)
theorem tsh_test : ∀ {n : Nat} {x : M}, testB n x = true → TSh x
  | 0, x, h => by cases h
  | n + 1, x, h => by
    unfold testB at h
    split at h
    · cases h
    · rename_i m w ps e
      split at h
      · rename_i q; cases tx_str q; cases l0 h; exact .any
      split at h
      · rename_i q; cases tx_str q
        rw [Bool.and_eq_true] at h
        obtain ⟨a, rfl⟩ := l1 h.1
        exact .has a
      split at h
      · rename_i q
        obtain ⟨s, hs, rfl⟩ := inTx_str q
        rw [Bool.and_eq_true] at h
        obtain ⟨a, b, rfl⟩ := l2 h.1
        refine .is s a b ?_
        simpa using hs
      split at h
      · rename_i q
        obtain ⟨s, hs, rfl⟩ := inTx_str q
        rw [Bool.and_eq_true] at h
        obtain ⟨a, b, rfl⟩ := l2 h.1
        refine .both s a b ?_
        simpa using hs
      · rw [Bool.and_eq_true, Bool.and_eq_true] at h
        cases tx_str h.1
        obtain ⟨a, rfl⟩ := l1 h.2.1
        exact .not a
    · cases h
theorem e_oInt {i : Int} {ρ : EnvM} {h : HpM} {O : Option Int → HpM → Prop} (q : O (some i) h) : Ens (oSome (mC (.int i)) ρ h) O := ⟨_, _, rfl, q⟩
theorem vk {kvs : List (Key × M)} {w : Str} {l : Int} (i : Nat) (h : (kvs.map (·.1)).findIdx? (fun k => decide (k = .inr w)) = some i) (e : kvs[i]?.map (·.2) = some (.int l)) : valM kvs (.inr w) = some (.int l) := by
  induction kvs generalizing i with
  | nil => cases h
  | cons p r ih =>
    rw [List.map_cons, List.findIdx?_cons] at h
    rw [show p = (p.1, p.2) from rfl, valM_cons]
    by_cases hk : p.1 = .inr w
    · rw [if_pos hk]
      rw [if_pos (decide_eq_true hk)] at h
      cases h
      exact e
    · rw [if_neg hk]
      rw [if_neg (by simp [hk])] at h
      obtain ⟨j, hj, rfl⟩ := Option.map_eq_some_iff.mp h
      exact ih j hj e
theorem tsh_word {x : M} (h : TSh x) : wordB TK x = true := by
  cases h with
  | any => exact wordB_str (l := 1) (vk 0 (by decide +kernel) rfl) (by decide)
  | has a => exact wordB_str (l := 2) (vk 1 (by decide +kernel) rfl) (by simp)
  | is w a b h =>
    rcases h with rfl | rfl | rfl
    · exact wordB_str (l := 3) (vk 2 (by decide +kernel) rfl) (by simp)
    · exact wordB_str (l := 3) (vk 3 (by decide +kernel) rfl) (by simp)
    · exact wordB_str (l := 3) (vk 4 (by decide +kernel) rfl) (by simp)
  | both w a b h =>
    rcases h with rfl | rfl
    · exact wordB_str (l := 3) (vk 5 (by decide +kernel) rfl) (by simp)
    · exact wordB_str (l := 3) (vk 6 (by decide +kernel) rfl) (by simp)
  | not a => exact wordB_str (l := 2) (vk 7 (by decide +kernel) rfl) (by simp)
theorem test_unw {n : Nat} {x : M} (h : wordB TK x = false) : testB n x = false := by
  cases q : testB n x with
  | false => rfl
  | true => rw [tsh_word (tsh_test q)] at h; cases h
theorem testB_any {n : Nat} : testB (n + 1) (.tup [.str "any"]) = true := by
  have e1 : isTx "any" (.str "any") = true := by decide +kernel
  simp [testB, e1]
theorem testB_has {n : Nat} {a : M} : testB (n + 1) (.tup [.str "has", a]) = nameB a := by
  have e1 : isTx "any" (.str "has") = false := by decide +kernel
  have e2 : isTx "has" (.str "has") = true := by decide +kernel
  simp [testB, e1, e2]
theorem testB_is {n : Nat} {w : Str} {a b : M} (h : w = "is" ∨ w = "under" ∨ w = "over") : testB (n + 1) (.tup [.str w, a, b]) = (nameB a && (numB b || isTxt b)) := by
  have e1 : isTx "any" (.str w) = false := by rcases h with rfl | rfl | rfl <;> decide +kernel
  have e2 : isTx "has" (.str w) = false := by rcases h with rfl | rfl | rfl <;> decide +kernel
  have e3 : inTx ["is", "under", "over"] (.str w) = true := by rcases h with rfl | rfl | rfl <;> decide +kernel
  simp [testB, e1, e2, e3]
theorem testB_both {n : Nat} {w : Str} {a b : M} (h : w = "both" ∨ w = "either") : testB (n + 1) (.tup [.str w, a, b]) = (testB n a && testB n b) := by
  have e1 : isTx "any" (.str w) = false := by rcases h with rfl | rfl <;> decide +kernel
  have e2 : isTx "has" (.str w) = false := by rcases h with rfl | rfl <;> decide +kernel
  have e3 : inTx ["is", "under", "over"] (.str w) = false := by rcases h with rfl | rfl <;> decide +kernel
  have e4 : inTx ["both", "either"] (.str w) = true := by rcases h with rfl | rfl <;> decide +kernel
  simp [testB, e1, e2, e3, e4]
theorem testB_not {n : Nat} {a : M} : testB (n + 1) (.tup [.str "not", a]) = testB n a := by
  have e1 : isTx "any" (.str "not") = false := by decide +kernel
  have e2 : isTx "has" (.str "not") = false := by decide +kernel
  have e3 : inTx ["is", "under", "over"] (.str "not") = false := by decide +kernel
  have e4 : inTx ["both", "either"] (.str "not") = false := by decide +kernel
  have e5 : isTx "not" (.str "not") = true := by decide +kernel
  simp [testB, e1, e2, e3, e4, e5]
theorem TK_int : ∀ p ∈ TK, ∃ l, p.2 = .int l := by
  intro p hp
  simp only [TK, List.mem_cons, List.not_mem_nil, or_false] at hp
  rcases hp with rfl | rfl | rfl | rfl | rfl | rfl | rfl | rfl <;> exact ⟨_, rfl⟩
theorem WK_int : ∀ p ∈ WK, ∃ l, p.2 = .int l := by
  intro p hp
  simp only [WK, List.mem_cons, List.not_mem_nil, or_false] at hp
  rcases hp with rfl | rfl | rfl | rfl | rfl | rfl <;> exact ⟨_, rfl⟩
theorem PK_int : ∀ p ∈ PK, ∃ l, p.2 = .int l := by
  intro p hp
  simp only [PK, List.mem_cons, List.not_mem_nil, or_false] at hp
  rcases hp with rfl | rfl | rfl <;> exact ⟨_, rfl⟩
theorem allN {h : HpM} {τ : EnvM} {xs : List M} {e : FE} {V : List M → HpM → Prop} (q : V [] h) : Ens (mComps xs none (gNm 0) tTrueM e τ [] h) V := by
  unfold mComps
  rw [if_pos (show okS xs none h from trivial)]
  exact .ret q
theorem ltest_run : ∀ {n k : Nat} {x : M} {h : HpM}, Pu k x → k < n → k ≤ 100 → m__law_right_test n [x] h = some (.bl (testB n x), h)
  | 0, k, x, h, _, hk, _ => by omega
  | n + 1, k, x, h, hx, hk, hk1 => by
    apply run_of
    unfold m__law_right_test
    refine e_fun rfl ?_
    unfold b__law_right_test
    walk_at "es"
    refine e_dspN TK ?_
    walk_at "es"
    refine ⟨rfl, by decide, by decide +kernel, ?_⟩
    walk_at "es"
    refine ens_eq (worded_run hx (by omega) TK_int) ?_
    walk_at "es"
    refine ite_b (fun q => ?_) (fun q => ?_)
    · walk_at "es"
      exact ⟨by rw [test_unw (by simpa using q)], rfl⟩
    have sh := tsh_of (show wordB TK x = true by simpa using q)
    clear q
    cases k with
    | zero => cases sh <;> exact hx.zero.elim
    | succ k =>
      walk_at "es"
      cases sh with
      | any =>
        refine p_hd ?_
        walk_at "es"
        refine len_ok (by simp) ?_
        refine p_inW ["both", "either", "not"] (by with_unfolding_all rfl) (Pu.str (k := 0) (by decide +kernel)) ?_
        refine ⟨_, rfl, ite_F (by decide +kernel) ?_⟩
        walk_at "es"
        refine e_iT ?_
        repeat (first | (with_reducible refine e_oInt ?_) | walk_at "e")
        refine ⟨[], rfl, ?_⟩
        refine e_loopN ?_
        walk_at "es"
        refine e_iT ?_
        repeat (first | (with_reducible refine e_oInt ?_) | walk_at "e")
        refine ⟨[], rfl, by simp, allN ?_⟩
        walk_at "es"
        refine p_all (bs := []) ?_
        walk_at "es"
        exact ⟨by rw [testB_any]; rfl, rfl⟩
      | has a =>
        have ha := hx.un a (by simp)
        refine p_hd ?_
        walk_at "es"
        refine len_ok (by simp) ?_
        refine p_inW ["both", "either", "not"] (by with_unfolding_all rfl) (Pu.str (k := 0) (by decide +kernel)) ?_
        refine ⟨_, rfl, ite_F (by decide +kernel) ?_⟩
        walk_at "es"
        refine e_iT ?_
        repeat (first | (with_reducible refine e_oInt ?_) | walk_at "e")
        refine ⟨[a], rfl, ?_⟩
        refine e_loopC ?_
        walk_at "es"
        refine ens_eq (lname_run ha) ?_
        walk_at "es"
        refine ite_b (fun q => ?_) (fun q => ?_)
        · walk_at "es"
          exact ⟨by rw [testB_has]; have : nameB a = false := (by simpa using q); rw [this], rfl⟩
        walk_at "es"
        refine e_loopN ?_
        walk_at "es"
        refine e_iT ?_
        repeat (first | (with_reducible refine e_oInt ?_) | walk_at "e")
        refine ⟨[], rfl, by simp, allN ?_⟩
        walk_at "es"
        refine p_all (bs := []) ?_
        walk_at "es"
        exact ⟨by rw [testB_has]; have : nameB a = true := (by simpa using q); rw [this]; rfl, rfl⟩
      | is w a b hw =>
        have ha := hx.un a (by simp)
        have hb := hx.un b (by simp)
        refine p_hd ?_
        walk_at "es"
        refine len_ok (by simp) ?_
        refine p_inW ["both", "either", "not"] (by with_unfolding_all rfl) (hx.un (.str w) (by simp)) ?_
        refine ⟨_, rfl, ite_F (by rcases hw with rfl | rfl | rfl <;> decide +kernel) ?_⟩
        walk_at "es"
        refine e_iT ?_
        repeat (first | (with_reducible refine e_oInt ?_) | walk_at "e")
        refine ⟨[a], rfl, ?_⟩
        refine e_loopC ?_
        walk_at "es"
        refine ens_eq (lname_run ha) ?_
        walk_at "es"
        refine ite_b (fun q => ?_) (fun q => ?_)
        · walk_at "es"
          exact ⟨by rw [testB_is hw]; have : nameB a = false := (by simpa using q); rw [this]; rfl, rfl⟩
        walk_at "es"
        refine e_loopN ?_
        walk_at "es"
        refine e_iT ?_
        repeat (first | (with_reducible refine e_oInt ?_) | walk_at "e")
        refine ⟨[b], rfl, by simp, all_run (fun x => numB x || isTxt x) (fun x hx => ?_) ?_⟩
        · cases List.mem_singleton.mp hx
          walk_at "es"
          refine ens_eq (lnum_run hb) ?_
          walk_at "es"
          refine ite_b (fun h1 => ?_) (fun h1 => ?_)
          · walk_at "es"
            exact ⟨by rw [h1]; rfl, rfl⟩
          · walk_at "es"
            refine p_isStr hb ?_
            exact ⟨by rw [h1]; rfl, rfl⟩
        walk_at "es"
        refine p_all ?_
        rw [all_id]
        walk_at "es"
        exact ⟨by rw [testB_is hw]; have : nameB a = true := (by simpa using q); rw [this]; simp, rfl⟩
      | both w a b hw =>
        have ha := hx.un a (by simp)
        have hb := hx.un b (by simp)
        refine p_hd ?_
        walk_at "es"
        refine len_ok (by simp) ?_
        refine p_inW ["both", "either", "not"] (by with_unfolding_all rfl) (hx.un (.str w) (by simp)) ?_
        refine ⟨_, rfl, ite_T (by rcases hw with rfl | rfl <;> decide +kernel) ?_⟩
        walk_at "es"
        refine e_iT ?_
        repeat (first | (with_reducible refine e_oInt ?_) | walk_at "e")
        refine ⟨[a, b], rfl, by simp, all_run (testB n) (fun x hx => ?_) ?_⟩
        · have hp : Pu k x := by
            simp only [List.mem_cons, List.not_mem_nil, or_false] at hx
            rcases hx with rfl | rfl
            · exact ha
            · exact hb
          walk_at "es"
          exact ens_eq (ltest_run hp (by omega) (by omega)) ⟨rfl, rfl⟩
        walk_at "es"
        refine p_all ?_
        rw [all_id]
        walk_at "es"
        exact ⟨by rw [testB_both hw]; simp, rfl⟩
      | not a =>
        have ha := hx.un a (by simp)
        refine p_hd ?_
        walk_at "es"
        refine len_ok (by simp) ?_
        refine p_inW ["both", "either", "not"] (by with_unfolding_all rfl) (Pu.str (k := 0) (by decide +kernel)) ?_
        refine ⟨_, rfl, ite_T (by decide +kernel) ?_⟩
        walk_at "es"
        refine e_iT ?_
        repeat (first | (with_reducible refine e_oInt ?_) | walk_at "e")
        refine ⟨[a], rfl, by simp, all_run (testB n) (fun x hx => ?_) ?_⟩
        · cases List.mem_singleton.mp hx
          walk_at "es"
          exact ens_eq (ltest_run ha (by omega) (by omega)) ⟨rfl, rfl⟩
        walk_at "es"
        refine p_all ?_
        rw [all_id]
        walk_at "es"
        exact ⟨by rw [testB_not]; simp, rfl⟩
local macro_rules | `(tactic| walk_at "z") => `(tactic| repeat' (first | (with_reducible first | refine p_isStr (by assumption) ?_ | refine ens_eq (lname_run (by assumption)) ?_ | refine ens_eq (lnum_run (by assumption)) ?_) | walk_at "x1"))
inductive WSh : M → Prop
  | step (a b : M) : WSh (.tup [.str "step", a, b])
  | empty : WSh (.tup [.str "empty"])
  | two (w : Str) (a b : M) (h : w = "then" ∨ w = "or") : WSh (.tup [.str w, a, b])
  | again (a : M) : WSh (.tup [.str "again", a])
  | many (a b c : M) : WSh (.tup [.str "many", a, b, c])
theorem wsh_of {x : M} (h : wordB WK x = true) : WSh x := by
  obtain ⟨w, ps, l, rfl, e, hl⟩ := word_inv h
  unfold WK at e
  rcases valM_inv e with ⟨ek, em⟩ | e
  · cases ek; cases em; obtain ⟨a, b, rfl⟩ := len2 hl; exact .step a b
  rcases valM_inv e with ⟨ek, em⟩ | e
  · cases ek; cases em; cases len0 hl; exact .empty
  rcases valM_inv e with ⟨ek, em⟩ | e
  · cases ek; cases em; obtain ⟨a, b, rfl⟩ := len2 hl; exact .two _ a b (.inl rfl)
  rcases valM_inv e with ⟨ek, em⟩ | e
  · cases ek; cases em; obtain ⟨a, b, rfl⟩ := len2 hl; exact .two _ a b (.inr rfl)
  rcases valM_inv e with ⟨ek, em⟩ | e
  · cases ek; cases em; obtain ⟨a, rfl⟩ := len1 hl; exact .again a
  rcases valM_inv e with ⟨ek, em⟩ | e
  · cases ek; cases em; obtain ⟨a, b, c, rfl⟩ := len3 hl; exact .many a b c
  · cases e
theorem wsh_way : ∀ {n : Nat} {x : M}, wayB n x = true → WSh x
  | 0, x, h => by cases h
  | n + 1, x, h => by
    unfold wayB at h
    split at h
    · cases h
    · rename_i m w ps e
      split at h
      · rename_i q; cases tx_str q
        rw [Bool.and_eq_true] at h
        obtain ⟨a, b, rfl⟩ := l2 h.1
        exact .step a b
      split at h
      · rename_i q; cases tx_str q; cases l0 h; exact .empty
      split at h
      · rename_i q
        obtain ⟨s, hs, rfl⟩ := inTx_str q
        rw [Bool.and_eq_true] at h
        obtain ⟨a, b, rfl⟩ := l2 h.1
        refine .two s a b ?_
        simpa using hs
      split at h
      · rename_i q; cases tx_str q
        rw [Bool.and_eq_true] at h
        obtain ⟨a, rfl⟩ := l1 h.1
        exact .again a
      · rw [Bool.and_eq_true, Bool.and_eq_true] at h
        cases tx_str h.1
        obtain ⟨a, b, c, rfl⟩ := l3 h.2.1
        exact .many a b c
    · cases h
theorem wsh_word {x : M} (h : WSh x) : wordB WK x = true := by
  cases h with
  | step a b => exact wordB_str (l := 3) (vk 0 (by decide +kernel) rfl) (by simp)
  | empty => exact wordB_str (l := 1) (vk 1 (by decide +kernel) rfl) (by decide)
  | two w a b h =>
    rcases h with rfl | rfl
    · exact wordB_str (l := 3) (vk 2 (by decide +kernel) rfl) (by simp)
    · exact wordB_str (l := 3) (vk 3 (by decide +kernel) rfl) (by simp)
  | again a => exact wordB_str (l := 2) (vk 4 (by decide +kernel) rfl) (by simp)
  | many a b c => exact wordB_str (l := 4) (vk 5 (by decide +kernel) rfl) (by simp)
theorem way_unw {n : Nat} {x : M} (h : wordB WK x = false) : wayB n x = false := by
  cases q : wayB n x with
  | false => rfl
  | true => rw [wsh_word (wsh_way q)] at h; cases h
theorem wayB_step {n : Nat} {a b : M} : wayB (n + 1) (.tup [.str "step", a, b]) = ((isN a || nameB a) && inTx ["forth", "back", "either"] b) := by
  have e1 : isTx "step" (.str "step") = true := by decide +kernel
  simp [wayB, e1]
theorem wayB_empty {n : Nat} : wayB (n + 1) (.tup [.str "empty"]) = true := by
  have e1 : isTx "step" (.str "empty") = false := by decide +kernel
  have e2 : isTx "empty" (.str "empty") = true := by decide +kernel
  simp [wayB, e1, e2]
theorem wayB_two {n : Nat} {w : Str} {a b : M} (h : w = "then" ∨ w = "or") : wayB (n + 1) (.tup [.str w, a, b]) = (wayB n a && wayB n b) := by
  have e1 : isTx "step" (.str w) = false := by rcases h with rfl | rfl <;> decide +kernel
  have e2 : isTx "empty" (.str w) = false := by rcases h with rfl | rfl <;> decide +kernel
  have e3 : inTx ["then", "or"] (.str w) = true := by rcases h with rfl | rfl <;> decide +kernel
  simp [wayB, e1, e2, e3]
theorem wayB_again {n : Nat} {a : M} : wayB (n + 1) (.tup [.str "again", a]) = wayB n a := by
  have e1 : isTx "step" (.str "again") = false := by decide +kernel
  have e2 : isTx "empty" (.str "again") = false := by decide +kernel
  have e3 : inTx ["then", "or"] (.str "again") = false := by decide +kernel
  have e4 : isTx "again" (.str "again") = true := by decide +kernel
  simp [wayB, e1, e2, e3, e4]
theorem wayB_many {n : Nat} {a b c : M} : wayB (n + 1) (.tup [.str "many", a, b, c]) = (timesB b c && wayB n a) := by
  have e1 : isTx "step" (.str "many") = false := by decide +kernel
  have e2 : isTx "empty" (.str "many") = false := by decide +kernel
  have e3 : inTx ["then", "or"] (.str "many") = false := by decide +kernel
  have e4 : isTx "again" (.str "many") = false := by decide +kernel
  have e5 : isTx "many" (.str "many") = true := by decide +kernel
  simp [wayB, e1, e2, e3, e4, e5]
theorem timesB_n {x y : M} (h : numB x = false) : timesB x y = false := by cases x <;> first | rfl | cases h
theorem timesB_m {x y : M} (h : numB y = false) : timesB x y = false := by cases y <;> first | (cases x <;> rfl) | cases h
theorem lway_run : ∀ {n k : Nat} {x : M} {h : HpM}, Pu k x → k < n → k ≤ 100 → m__law_right_way n [x] h = some (.bl (wayB n x), h)
  | 0, k, x, h, _, hk, _ => by omega
  | n + 1, k, x, h, hx, hk, hk1 => by
    apply run_of
    unfold m__law_right_way
    refine e_fun rfl ?_
    unfold b__law_right_way
    walk_at "es"
    refine e_dspN WK ?_
    walk_at "es"
    refine ⟨rfl, by decide, by decide +kernel, ?_⟩
    walk_at "es"
    refine ens_eq (worded_run hx (by omega) WK_int) ?_
    walk_at "es"
    refine ite_b (fun q => ?_) (fun q => ?_)
    · walk_at "es"
      exact ⟨by rw [way_unw (by simpa using q)], rfl⟩
    have sh := wsh_of (show wordB WK x = true by simpa using q)
    clear q
    cases k with
    | zero => cases sh <;> exact hx.zero.elim
    | succ k =>
      walk_at "es"
      cases sh with
      | step a b =>
        have ha := hx.un a (by simp)
        have hb := hx.un b (by simp)
        rw [wayB_step]
        refine p_hd ?_
        walk_at "es"
        refine ite_T (by decide +kernel) ?_
        walk_at "es"
        refine p_t1 ?_
        walk_at "es"
        have hbt : isTxt b = false → inTx ["forth", "back", "either"] b = false := fun q => by cases b <;> first | rfl | cases q
        clear hx
        walk_at "z"
      | empty =>
        rw [wayB_empty]
        refine p_hd ?_
        walk_at "es"
        refine ite_F (by decide +kernel) ?_
        walk_at "es"
        refine p_hd ?_
        walk_at "es"
        refine ite_F (by decide +kernel) ?_
        walk_at "es"
        refine e_iT ?_
        repeat (first | (with_reducible refine e_oInt ?_) | walk_at "e")
        refine ⟨[], rfl, by simp, allN ?_⟩
        walk_at "es"
        refine p_all (bs := []) ?_
        walk_at "es"
        exact ⟨rfl, rfl⟩
      | two w a b hw =>
        have ha := hx.un a (by simp)
        have hb := hx.un b (by simp)
        rw [wayB_two hw]
        refine p_hd ?_
        walk_at "es"
        refine ite_F (by rcases hw with rfl | rfl <;> decide +kernel) ?_
        walk_at "es"
        refine p_hd ?_
        walk_at "es"
        refine ite_F (by rcases hw with rfl | rfl <;> decide +kernel) ?_
        walk_at "es"
        refine e_iT ?_
        repeat (first | (with_reducible refine e_oInt ?_) | walk_at "e")
        refine ⟨[a, b], rfl, by simp, all_run (wayB n) (fun x hx => ?_) ?_⟩
        · have hp : Pu k x := by
            simp only [List.mem_cons, List.not_mem_nil, or_false] at hx
            rcases hx with rfl | rfl
            · exact ha
            · exact hb
          walk_at "es"
          exact ens_eq (lway_run hp (by omega) (by omega)) ⟨rfl, rfl⟩
        walk_at "es"
        refine p_all ?_
        rw [all_id]
        walk_at "es"
        exact ⟨by simp, rfl⟩
      | again a =>
        have ha := hx.un a (by simp)
        rw [wayB_again]
        refine p_hd ?_
        walk_at "es"
        refine ite_F (by decide +kernel) ?_
        walk_at "es"
        refine p_hd ?_
        walk_at "es"
        refine ite_F (by decide +kernel) ?_
        walk_at "es"
        refine e_iT ?_
        repeat (first | (with_reducible refine e_oInt ?_) | walk_at "e")
        refine ⟨[a], rfl, by simp, all_run (wayB n) (fun x hx => ?_) ?_⟩
        · cases List.mem_singleton.mp hx
          walk_at "es"
          exact ens_eq (lway_run ha (by omega) (by omega)) ⟨rfl, rfl⟩
        walk_at "es"
        refine p_all ?_
        rw [all_id]
        walk_at "es"
        exact ⟨by simp, rfl⟩
      | many a b c =>
        have ha := hx.un a (by simp)
        have hb := hx.un b (by simp)
        have hc := hx.un c (by simp)
        rw [wayB_many]
        refine p_hd ?_
        walk_at "es"
        refine ite_F (by decide +kernel) ?_
        walk_at "es"
        refine p_hd ?_
        walk_at "es"
        refine ite_T (by decide +kernel) ?_
        walk_at "es"
        refine p_t2 ?_
        walk_at "es"
        refine ens_eq (lnum_run hb) ?_
        walk_at "es"
        refine ite_b (fun q => ?_) (fun q => ?_)
        · walk_at "es"
          exact ⟨by rw [timesB_n (by simpa using q)]; rfl, rfl⟩
        walk_at "es"
        refine p_t3 ?_
        walk_at "es"
        refine ens_eq (lnum_run hc) ?_
        walk_at "es"
        refine ite_b (fun q2 => ?_) (fun q2 => ?_)
        · walk_at "es"
          exact ⟨by rw [timesB_m (by simpa using q2)]; rfl, rfl⟩
        obtain ⟨i, rfl⟩ := numB_int (show numB b = true by simpa using q)
        obtain ⟨j, rfl⟩ := numB_int (show numB c = true by simpa using q2)
        walk_at "es"
        refine e_chain3 ?_
        walk_at "es"
        refine p_t2 ?_
        walk_at "es"
        have tl : ∀ (c : Bool), c = timesB (.int i) (.int j) → if (!c) = true then Ens (sRet (mC (.bl false)) [some (.tup [.str "many", a, .int i, .int j])] h) (SQ (sRet (mCall (m__law_right_way n) (mCons (mOp ixM (mVar 0) (mC (.int 1))) mNil))) (SQ (sRet (mCB bAll (mCons (mComp [none] (iT (mSl slM (mVar 0) (oSome (mC (.int 1))) oNo)) (gNm 0) tTrueM (mCall (m__law_right_way n) (mCons (mVar 0) mNil))) mNil))) (FQ (Is (.bl (timesB (.int i) (.int j) && wayB n a)) h)))) else Ens (sNext [some (.tup [.str "many", a, .int i, .int j])] h) (SQ (sRet (mCall (m__law_right_way n) (mCons (mOp ixM (mVar 0) (mC (.int 1))) mNil))) (SQ (sRet (mCB bAll (mCons (mComp [none] (iT (mSl slM (mVar 0) (oSome (mC (.int 1))) oNo)) (gNm 0) tTrueM (mCall (m__law_right_way n) (mCons (mVar 0) mNil))) mNil))) (FQ (Is (.bl (timesB (.int i) (.int j) && wayB n a)) h)))) := by
          intro c hc
          cases c with
          | false =>
            refine ite_nF ?_
            walk_at "es"
            exact ⟨by rw [← hc]; rfl, rfl⟩
          | true =>
            refine ite_nT ?_
            walk_at "es"
            refine p_t1 ?_
            walk_at "es"
            exact ens_eq (lway_run ha (by omega) (by omega)) ⟨by rw [← hc]; rfl, rfl⟩
        refine ite_b (fun h1 => ?_) (fun h1 => ?_)
        · walk_at "es"
          refine p_t3 ?_
          walk_at "es"
          refine ite_b (fun h2 => ?_) (fun h2 => ?_)
          · walk_at "es"
            exact tl _ (by simp [timesB, h1, h2])
          · walk_at "e"
            exact tl false (by simp [timesB, h1, h2])
        · walk_at "e"
          exact tl false (by simp [timesB, h1])
theorem snumB_n {n : Int} {x : M} (h : numB x = false) : snumB n x = false := by cases x <;> first | rfl | cases h
theorem snum_lo {n i : Int} (h : decide (i < 0) = true) : snumB n (.int i) = false := by
  have := of_decide_eq_true h
  simp [snumB]; omega
theorem snum_hi {n i : Int} (h : decide (i ≥ n) = true) : snumB n (.int i) = false := by
  have := of_decide_eq_true h
  simp [snumB]; omega
theorem snum_in {n i : Int} (h : decide (i < 0) = false) (h2 : decide (i ≥ n) = false) : snumB n (.int i) = true := by
  have := of_decide_eq_false h
  have := of_decide_eq_false h2
  simp [snumB]; omega
theorem lbow_run {k : Nat} {x : M} {n : Int} {h : HpM} (hx : Pu k x) (hk : k < 9) : m__law_right_bow [x, .int n] h = some (.bl (bowB n x), h) := by
  apply run_of
  refine e_fun rfl ?_
  unfold b__law_right_bow
  cases x with
  | dct _ _ => cases k <;> cases hx
  | ref _ => cases k <;> cases hx
  | scr _ => cases k <;> cases hx
  | ty _ => cases k <;> cases hx
  | tup xs =>
    cases k with
    | zero => exact hx.zero.elim
    | succ k =>
      walk_at "es"
      refine ite_b (fun q => ?_) (fun q => ?_)
      · walk_at "es"; exact ⟨by rw [bowB_ne q], rfl⟩
      · obtain ⟨a, b, c, d, rfl⟩ := of4 q
        have ha := hx.un a (by simp)
        have hb := hx.un b (by simp)
        have hc := hx.un c (by simp)
        have hd := hx.un d (by simp)
        have rd := lway_run (h := h) hd (show k < 8 by omega) (by omega)
        have hab : ∀ y ∈ [a, b], Pu k y := by
          intro y hy
          simp only [List.mem_cons, List.not_mem_nil, or_false] at hy
          rcases hy with rfl | rfl
          · exact ha
          · exact hb
        clear q
        walk_at "es"
        refine e_iT ?_
        repeat (first | (with_reducible refine e_oInt ?_) | walk_at "e")
        refine ⟨[a, b], rfl, ?_⟩
        refine e_forall (snumB n) (fun ρ => ∃ v, ρ = [some (.tup [a, b, c, d]), some (.int n), v]) [a, b] ?_ ?_ ?_ ⟨none, rfl⟩
        · rintro y hy ρ ⟨v, rfl⟩
          have hp := hab y hy
          walk_at "es"
          refine ens_eq (lnum_run hp) ?_
          walk_at "es"
          refine ite_b (fun q => ?_) (fun q => ?_)
          · walk_at "es"
            exact ⟨rfl, by rw [if_neg (by rw [snumB_n (by simpa using q)]; decide)]⟩
          obtain ⟨i, rfl⟩ := numB_int (show numB y = true by simpa using q)
          walk_at "es"
          refine ite_b (fun q1 => ?_) (fun q1 => ?_)
          · walk_at "es"
            exact ⟨rfl, by rw [if_neg (by rw [snum_lo q1]; decide)]⟩
          walk_at "es"
          refine ite_b (fun q2 => ?_) (fun q2 => ?_)
          · walk_at "es"
            exact ⟨rfl, by rw [if_neg (by rw [snum_hi q2]; decide)]⟩
          walk_at "es"
          exact ⟨rfl, by rw [if_pos (snum_in q1 q2)]; exact ⟨_, rfl, _, rfl⟩⟩
        · rintro hal ρ ⟨v, rfl⟩
          have h1 : snumB n a = true ∧ snumB n b = true := by simpa using hal
          have hct : isTxt c = false → inTx ["all", "short", "plain", "any"] c = false := fun q => by cases c <;> first | rfl | cases q
          have hB : bowB n (.tup [a, b, c, d]) = (inTx ["all", "short", "plain", "any"] c && wayB 8 d) := by simp [bowB, h1.1, h1.2]
          rw [hB]
          clear hx hab hal hB
          walk_at "z"
        · intro hal
          have hB : bowB n (.tup [a, b, c, d]) = false := by
            have : (snumB n a && snumB n b) = false := by simpa using hal
            simp only [bowB]
            cases q1 : snumB n a with
            | false => rfl
            | true =>
              rw [q1] at this
              have q2 : snumB n b = false := by simpa using this
              rw [q2]; rfl
          walk_at "es"
          exact ⟨by rw [hB], rfl⟩
  | _ => walk_at "es"; exact ⟨rfl, rfl⟩
inductive PSh : M → Prop
  | unlike (a b : M) : PSh (.tup [.str "unlike", a, b])
  | two (w : Str) (a b c d : M) (h : w = "same" ∨ w = "under") : PSh (.tup [.str w, a, b, c, d])
theorem psh_of {x : M} (h : wordB PK x = true) : PSh x := by
  obtain ⟨w, ps, l, rfl, e, hl⟩ := word_inv h
  unfold PK at e
  rcases valM_inv e with ⟨ek, em⟩ | e
  · cases ek; cases em; obtain ⟨a, b, rfl⟩ := len2 hl; exact .unlike a b
  rcases valM_inv e with ⟨ek, em⟩ | e
  · cases ek; cases em; obtain ⟨a, b, c, d, rfl⟩ := len4 hl; exact .two _ a b c d (.inl rfl)
  rcases valM_inv e with ⟨ek, em⟩ | e
  · cases ek; cases em; obtain ⟨a, b, c, d, rfl⟩ := len4 hl; exact .two _ a b c d (.inr rfl)
  · cases e
theorem psh_word {x : M} (h : PSh x) : wordB PK x = true := by
  cases h with
  | unlike a b => exact wordB_str (l := 3) (vk 0 (by decide +kernel) rfl) (by simp)
  | two w a b c d h =>
    rcases h with rfl | rfl
    · exact wordB_str (l := 5) (vk 1 (by decide +kernel) rfl) (by simp)
    · exact wordB_str (l := 5) (vk 2 (by decide +kernel) rfl) (by simp)
theorem pair_unw {n : Int} {x : M} (h : wordB PK x = false) : pairB n x = false := by
  cases q : pairB n x with
  | false => rfl
  | true =>
    have : PSh x := by
      unfold pairB at q
      split at q
      · rw [Bool.and_eq_true] at q
        cases tx_str q.1
        exact .unlike _ _
      · rw [Bool.and_eq_true] at q
        obtain ⟨s, hs, rfl⟩ := inTx_str q.1
        exact .two s _ _ _ _ (by simpa using hs)
      · cases q
    rw [psh_word this] at h; cases h
theorem lpair_run {k : Nat} {x : M} {n : Int} {h : HpM} (hx : Pu k x) (hk : k < 9) : m__law_right_pair [x, .int n] h = some (.bl (pairB n x), h) := by
  apply run_of
  refine e_fun rfl ?_
  unfold b__law_right_pair
  walk_at "es"
  refine e_dspN PK ?_
  walk_at "es"
  refine ⟨rfl, by decide, by decide +kernel, ?_⟩
  walk_at "es"
  refine ens_eq (worded_run hx (by omega) PK_int) ?_
  walk_at "es"
  refine ite_b (fun q => ?_) (fun q => ?_)
  · walk_at "es"
    exact ⟨by rw [pair_unw (by simpa using q)], rfl⟩
  have sh := psh_of (show wordB PK x = true by simpa using q)
  clear q
  have body : ∀ (t : M) (nm : M) (y : M) (v : Option M), Pu k y → Ens ((fun x ρ h => L2.bnd (gNm 4 x ρ h) fun ρ' h' => (sIf (tOrM (tNotM (tV (mCall m__law_number (mCons (mVar 4) mNil)))) (tOrM (tV (mOp opLt (mVar 4) (mC (.int 0)))) (tV (mOp opGe (mVar 4) (mVar 1))))) (sRet (mC (.bl false))) sNext) ρ' h') y [some t, some (.int n), some nm, some nm, v] h) (fun _ _ => True) → True := fun _ _ _ _ _ _ => trivial
  clear body
  cases k with
  | zero => cases sh <;> exact hx.zero.elim
  | succ k =>
    cases sh with
    | unlike a b =>
      have ha := hx.un a (by simp)
      have hb := hx.un b (by simp)
      have hab : ∀ y ∈ [a, b], Pu k y := by
        intro y hy
        simp only [List.mem_cons, List.not_mem_nil, or_false] at hy
        rcases hy with rfl | rfl
        · exact ha
        · exact hb
      walk_at "es"
      refine e_par ?_
      walk_at "es"
      refine p_t1 ?_
      walk_at "es"
      refine p_t2 ?_
      walk_at "es"
      refine len_ok (by simp) ?_
      walk_at "es"
      refine len_ok (by simp) ?_
      walk_at "es"
      refine ⟨_, _, rfl, ?_⟩
      walk_at "es"
      refine p_hd ?_
      walk_at "es"
      refine ite_F (by decide +kernel) ?_
      walk_at "es"
      refine e_iL ?_
      walk_at "es"
      refine ⟨[a, b], rfl, ?_⟩
      have hu : isTx "unlike" (.str "unlike") = true := by decide +kernel
      refine e_forall (snumB n) (fun ρ => ∃ v, ρ = [some (.tup [.str "unlike", a, b]), some (.int n), some (.lst [a, b]), some (.lst []), v]) [a, b] ?_ ?_ ?_ ⟨none, rfl⟩
      · rintro y hy ρ ⟨v, rfl⟩
        have hp := hab y hy
        walk_at "es"
        refine ens_eq (lnum_run hp) ?_
        walk_at "es"
        refine ite_b (fun q => ?_) (fun q => ?_)
        · walk_at "es"
          exact ⟨rfl, by rw [if_neg (by rw [snumB_n (by simpa using q)]; decide)]⟩
        obtain ⟨i, rfl⟩ := numB_int (show numB y = true by simpa using q)
        walk_at "es"
        refine ite_b (fun q1 => ?_) (fun q1 => ?_)
        · walk_at "es"
          exact ⟨rfl, by rw [if_neg (by rw [snum_lo q1]; decide)]⟩
        walk_at "es"
        refine ite_b (fun q2 => ?_) (fun q2 => ?_)
        · walk_at "es"
          exact ⟨rfl, by rw [if_neg (by rw [snum_hi q2]; decide)]⟩
        walk_at "es"
        exact ⟨rfl, by rw [if_pos (snum_in q1 q2)]; exact ⟨_, rfl, _, rfl⟩⟩
      · rintro hal ρ ⟨v, rfl⟩
        have h1 : snumB n a = true ∧ snumB n b = true := by simpa using hal
        walk_at "es"
        refine e_iL ?_
        walk_at "es"
        refine ⟨[], rfl, by simp, allN ?_⟩
        walk_at "es"
        refine p_all (bs := []) ?_
        walk_at "es"
        exact ⟨by simp [pairB, hu, h1.1, h1.2], rfl⟩
      · intro hal
        have : (snumB n a && snumB n b) = false := by simpa using hal
        walk_at "es"
        exact ⟨by simp only [pairB, hu, this]; rfl, rfl⟩
    | two w a b c d hw =>
      have ha := hx.un a (by simp)
      have hb := hx.un b (by simp)
      have hc := hx.un c (by simp)
      have hd := hx.un d (by simp)
      have hab : ∀ y ∈ [a, c], Pu k y := by
        intro y hy
        simp only [List.mem_cons, List.not_mem_nil, or_false] at hy
        rcases hy with rfl | rfl
        · exact ha
        · exact hc
      walk_at "es"
      refine e_par ?_
      walk_at "es"
      refine p_t1 ?_
      walk_at "es"
      refine p_t2 ?_
      walk_at "es"
      refine len_ok (by simp) ?_
      walk_at "es"
      refine len_ok (by simp) ?_
      walk_at "es"
      refine ⟨_, _, rfl, ?_⟩
      walk_at "es"
      refine p_hd ?_
      walk_at "es"
      refine ite_T (by rcases hw with rfl | rfl <;> decide +kernel) ?_
      walk_at "es"
      refine e_par ?_
      walk_at "es"
      refine p_t1 ?_
      walk_at "es"
      refine p_t3 ?_
      walk_at "es"
      refine len_ok (by simp) ?_
      walk_at "es"
      refine p_t2 ?_
      walk_at "es"
      refine p_t4 ?_
      walk_at "es"
      refine len_ok (by simp) ?_
      walk_at "es"
      refine ⟨_, _, rfl, ?_⟩
      walk_at "es"
      refine e_iL ?_
      walk_at "es"
      refine ⟨[a, c], rfl, ?_⟩
      have hu : inTx ["same", "under"] (.str w) = true := by rcases hw with rfl | rfl <;> decide +kernel
      refine e_forall (snumB n) (fun ρ => ∃ v, ρ = [some (.tup [.str w, a, b, c, d]), some (.int n), some (.lst [a, c]), some (.lst [b, d]), v]) [a, c] ?_ ?_ ?_ ⟨none, rfl⟩
      · rintro y hy ρ ⟨v, rfl⟩
        have hp := hab y hy
        walk_at "es"
        refine ens_eq (lnum_run hp) ?_
        walk_at "es"
        refine ite_b (fun q => ?_) (fun q => ?_)
        · walk_at "es"
          exact ⟨rfl, by rw [if_neg (by rw [snumB_n (by simpa using q)]; decide)]⟩
        obtain ⟨i, rfl⟩ := numB_int (show numB y = true by simpa using q)
        walk_at "es"
        refine ite_b (fun q1 => ?_) (fun q1 => ?_)
        · walk_at "es"
          exact ⟨rfl, by rw [if_neg (by rw [snum_lo q1]; decide)]⟩
        walk_at "es"
        refine ite_b (fun q2 => ?_) (fun q2 => ?_)
        · walk_at "es"
          exact ⟨rfl, by rw [if_neg (by rw [snum_hi q2]; decide)]⟩
        walk_at "es"
        exact ⟨rfl, by rw [if_pos (snum_in q1 q2)]; exact ⟨_, rfl, _, rfl⟩⟩
      · rintro hal ρ ⟨v, rfl⟩
        have h1 : snumB n a = true ∧ snumB n c = true := by simpa using hal
        walk_at "es"
        refine e_iL ?_
        walk_at "es"
        refine ⟨[b, d], rfl, by simp, all_run nameB (fun x hx => ?_) ?_⟩
        · have hp : Pu k x := by
            simp only [List.mem_cons, List.not_mem_nil, or_false] at hx
            rcases hx with rfl | rfl
            · exact hb
            · exact hd
          walk_at "es"
          exact ens_eq (lname_run hp) ⟨rfl, rfl⟩
        walk_at "es"
        refine p_all ?_
        rw [all_id]
        walk_at "es"
        exact ⟨by simp [pairB, hu, h1.1, h1.2], rfl⟩
      · intro hal
        have : (snumB n a && snumB n c) = false := by simpa using hal
        walk_at "es"
        refine ⟨?_, rfl⟩
        simp only [pairB, hu]
        cases q1 : snumB n a with
        | false => rfl
        | true =>
          rw [q1] at this
          have q2 : snumB n c = false := by simpa using this
          rw [q2]; simp
theorem due_run {k : Nat} {x : M} {h : HpM} (hx : Pu k x) (hk : k < 9) : m__law_due [x] h = some (.bl (patB x), h) := by
  apply run_of
  refine e_fun rfl ?_
  unfold b__law_due
  cases x with
  | dct _ _ => cases k <;> cases hx
  | ref _ => cases k <;> cases hx
  | scr _ => cases k <;> cases hx
  | ty _ => cases k <;> cases hx
  | tup xs =>
    cases k with
    | zero => exact hx.zero.elim
    | succ k =>
      walk_at "es"
      refine ite_b (fun q => ?_) (fun q => ?_)
      · walk_at "es"; exact ⟨by rw [patB_ne q], rfl⟩
      obtain ⟨a, b, c, rfl⟩ := of3 q
      have ha := hx.un a (by simp)
      have hb := hx.un b (by simp)
      have hc := hx.un c (by simp)
      clear q
      walk_at "es"
      refine e_iT ?_
      walk_at "es"
      refine ⟨[a, b, c], rfl, ?_⟩
      refine e_forall (fun y => (tupOf y).isSome) (fun ρ => ∃ v, ρ = [some (.tup [a, b, c]), v, none, none, none, none, none]) [a, b, c] ?_ ?_ ?_ ⟨none, rfl⟩
      · rintro y hy ρ ⟨v, rfl⟩
        walk_at "es"
        refine p_isTup (hx.un y hy) ?_
        walk_at "es"
        refine ite_b (fun q => ?_) (fun q => ?_)
        · walk_at "es"
          refine ⟨rfl, ?_⟩
          rw [if_neg (by simpa using q)]
        · walk_at "es"
          refine ⟨rfl, ?_⟩
          rw [if_pos (by simpa using q)]
          exact ⟨_, rfl, _, rfl⟩
      rotate_left
      · intro hal
        walk_at "es"
        refine ⟨?_, rfl⟩
        have : tupOf a = none ∨ tupOf b = none ∨ tupOf c = none := by
          cases ea : tupOf a with
          | none => exact .inl rfl
          | some _ =>
            cases eb : tupOf b with
            | none => exact .inr (.inl rfl)
            | some _ =>
              cases ec : tupOf c with
              | none => exact .inr (.inr rfl)
              | some _ => simp [ea, eb, ec] at hal
        rw [patB_no this]
      rintro hal ρ ⟨v, rfl⟩
      have hal' : (tupOf a).isSome = true ∧ (tupOf b).isSome = true ∧ (tupOf c).isSome = true := by
        simp only [List.all_cons, List.all_nil, Bool.and_true, Bool.and_eq_true] at hal
        exact hal
      obtain ⟨as, ea⟩ := Option.isSome_iff_exists.mp hal'.1
      obtain ⟨bs, eb⟩ := Option.isSome_iff_exists.mp hal'.2.1
      obtain ⟨cs, ec⟩ := Option.isSome_iff_exists.mp hal'.2.2
      cases tup_some ea
      cases tup_some eb
      cases tup_some ec
      clear ea eb ec hal hal'
      cases k with
      | zero => exact ha.zero.elim
      | succ k =>
      walk_at "es"
      refine e_iT ?_
      walk_at "es"
      refine ⟨as, rfl, ?_⟩
      refine e_forall spotB (fun ρ => ∃ v w, ρ = [some (.tup [.tup as, .tup bs, .tup cs]), v, some (.tup as), some (.tup bs), some (.tup cs), w, none]) as ?_ ?_ ?_ ⟨v, none, rfl⟩
      · rintro y hy ρ ⟨v, w, rfl⟩
        have hp := ha.un y hy
        cases y with
        | dct _ _ => cases k <;> cases hp
        | ref _ => cases k <;> cases hp
        | scr _ => cases k <;> cases hp
        | ty _ => cases k <;> cases hp
        | tup ys =>
          cases k with
          | zero => exact hp.zero.elim
          | succ k =>
            walk_at "es"
            refine ite_b (fun q => ?_) (fun q => ?_)
            · walk_at "es"
              exact ⟨rfl, by rw [if_neg (by rw [spotB_ne q]; decide)]⟩
            obtain ⟨d, t, rfl⟩ := of2 q
            have hd := hp.un d (by simp)
            have ht := hp.un t (by simp)
            walk_at "es"
            refine p_t1 ?_
            walk_at "es"
            refine ens_eq (ltest_run (n := 8) ht (by omega) (by omega)) ?_
            walk_at "es"
            refine ite_b (fun q1 => ?_) (fun q1 => ?_)
            · walk_at "es"
              have q1' : testB 8 t = false := by simpa using q1
              refine ⟨rfl, ?_⟩
              rw [if_neg (by simp [spotB, q1'])]
            have q1' : testB 8 t = true := by simpa using q1
            walk_at "es"
            refine p_hd ?_
            walk_at "es"
            refine ite_b (fun q2 => ?_) (fun q2 => ?_)
            · have q2' : isN d = false := by simpa using q2
              walk_at "es"
              refine p_hd ?_
              walk_at "es"
              refine ens_eq (lname_run hd) ?_
              walk_at "es"
              refine ite_b (fun q3 => ?_) (fun q3 => ?_)
              · walk_at "es"
                have q3' : nameB d = false := by simpa using q3
                refine ⟨rfl, ?_⟩
                rw [if_neg (by simp [spotB, q2', q3'])]
              · walk_at "es"
                have q3' : nameB d = true := by simpa using q3
                refine ⟨rfl, ?_⟩
                rw [if_pos (by simp [spotB, q1', q3'])]
                exact ⟨_, rfl, _, _, rfl⟩
            · have q2' : isN d = true := by simpa using q2
              walk_at "es"
              refine ⟨rfl, ?_⟩
              rw [if_pos (by simp [spotB, q1', q2'])]
              exact ⟨_, rfl, _, _, rfl⟩
        | _ =>
          walk_at "es"
          exact ⟨rfl, rfl⟩
      rotate_left
      · intro hal
        walk_at "es"
        refine ⟨?_, rfl⟩
        simp only [patB]; rw [hal]; simp
      rintro hal ρ ⟨v, w, rfl⟩
      walk_at "es"
      refine e_iT ?_
      walk_at "es"
      refine ⟨bs, rfl, Nat.le_trans hb.tupl (by decide), all_run (bowB as.length) (fun x hx => ?_) ?_⟩
      · walk_at "es"
        exact ens_eq (lbow_run (hb.un x hx) (by omega)) ⟨rfl, rfl⟩
      walk_at "es"
      refine e_iT ?_
      walk_at "es"
      refine ⟨cs, rfl, Nat.le_trans hc.tupl (by decide), all_run (pairB as.length) (fun x hx => ?_) ?_⟩
      · walk_at "es"
        exact ens_eq (lpair_run (hc.un x hx) (by omega)) ⟨rfl, rfl⟩
      walk_at "es"
      refine p_addL ?_ ?_
      · have := hb.tupl; have := hc.tupl; simp; omega
      walk_at "es"
      refine ite_b (fun q => ?_) (fun q => ?_)
      · walk_at "es"
        rw [← List.map_append]
        refine p_all ?_
        walk_at "es"
        refine ⟨?_, rfl⟩
        have q' : ((as.length : Int) == 0) = false := by
          have := of_decide_eq_true q
          exact beq_eq_false_iff_ne.mpr (by omega)
        rw [List.all_append, all_id, all_id]
        simp only [patB]; rw [hal, q']; rfl
      · walk_at "es"
        refine ⟨?_, rfl⟩
        have q' : ((as.length : Int) == 0) = true := by
          have := of_decide_eq_false q
          exact beq_iff_eq.mpr (by omega)
        simp only [patB]; rw [q']; rfl
  | _ => walk_at "es"; exact ⟨rfl, rfl⟩
def Hp3 (h : HpM) : Prop := ∀ o ∈ h, ∃ xs : List Int, o = .lst (xs.map M.int)
def In (g : HpM) (p : Nat) (c : Int) : Prop := BoxAt g p c ∧ Hp3 g
theorem In.mono {g : HpM} {p : Nat} {c c' : Int} (b : In g p c) (hc : c ≤ c') : In g p c' := ⟨b.1.mono hc, b.2⟩
theorem kp_app {g t h' : HpM} {p : Nat} {c : Int} (hp : p < g.length) (hg : Hp3 g) (kp : Kp p (g ++ t) h') (hb : BoxAt h' p c) : ∃ g', h' = g' ++ t ∧ g'.length = g.length ∧ In g' p c := by
  have hl : (h'.take g.length).length = g.length := by rw [List.length_take, kp.1, List.length_append]; omega
  have e : h' = h'.take g.length ++ t := by
    apply List.ext_getElem?
    intro i
    by_cases hi : i < g.length
    · rw [List.getElem?_append_left (by omega), List.getElem?_take_of_lt hi]
    · rw [List.getElem?_append_right (by omega), hl, kp.2 i (by omega), List.getElem?_append_right (by omega)]
  refine ⟨h'.take g.length, e, hl, ?_, ?_⟩
  · obtain ⟨a, b, n, h1, r⟩ := hb
    exact ⟨a, b, n, by rw [List.getElem?_take_of_lt hp]; exact h1, r⟩
  · intro o ho
    obtain ⟨i, hi⟩ := List.getElem?_of_mem ho
    have hi' : i < g.length := by rw [← hl]; exact (List.getElem?_eq_some_iff.mp hi).1
    rw [List.getElem?_take_of_lt hi'] at hi
    by_cases hq : i = p
    · subst hq
      obtain ⟨a, b, n, h1, _⟩ := hb
      rw [h1] at hi
      cases hi
      exact ⟨[a, b, n], rfl⟩
    · rw [kp.2 i hq, List.getElem?_append_left hi'] at hi
      exact hg o (List.mem_of_getElem? hi)
theorem take_in {g t : HpM} {p : Nat} {c many : Int} {R : M → HpM → Prop} (hh : In g p c) (m1 : 0 < many) (m2 : many < 1073741824) (m3 : c < 1000000000)
    (k : ∀ r g', 0 ≤ r → r < many → In g' p (c + 1) → g'.length = g.length → R (.int r) (g' ++ t)) : Ens (m__law_take [.ref p, .int many] (g ++ t)) R :=
  take_ok hh.1.app m1 m2 m3 fun r h' h0 h1 hb kp => by
    obtain ⟨g', rfl, hl, hi⟩ := kp_app hh.1.lt hh.2 kp hb
    exact k r g' h0 h1 hi hl
theorem p_any {R : M → Prop} {h : HpM} {xs : List M} {r : Int} (h0 : 0 ≤ r) (h1 : r < xs.length) (q : ∀ x ∈ xs, R x) : Enp (ixM (.lst xs) (.int r) h) R := by
  obtain ⟨j, rfl⟩ := Int.eq_ofNat_of_zero_le h0
  have hj : j < xs.length := by omega
  refine ⟨xs[j], ?_, q _ (List.getElem_mem hj)⟩
  show atI xs (j : Int) = _
  rw [atI_nat (List.getElem?_eq_getElem hj)]
noncomputable def inR (n : Int) : M → Bool
  | .int j => decide (0 ≤ j) && decide (j < n)
  | _ => false
theorem inR_int {n : Int} {x : M} (h : inR n x = true) : ∃ j, x = .int j ∧ 0 ≤ j ∧ j < n := by
  cases x with
  | int j =>
    have h' : (decide (0 ≤ j) && decide (j < n)) = true := h
    rw [Bool.and_eq_true] at h'
    exact ⟨j, rfl, of_decide_eq_true h'.1, of_decide_eq_true h'.2⟩
  | _ => cases h
noncomputable def kW : Nat → Int
  | 0 => 0
  | n + 1 => 4 + 2 * kW n
theorem kW_nn : ∀ n, 0 ≤ kW n
  | 0 => by decide
  | n + 1 => by have := kW_nn n; unfold kW; omega
theorem pu3 {k : Nat} {a b c : M} (ha : Pu k a) (hb : Pu k b) (hc : Pu k c) : Pu (k + 1) (.tup [a, b, c]) := Pu.tup (by simp) (by intro y hy; simp at hy; rcases hy with rfl | rfl | rfl <;> assumption)
theorem pu_res : ∀ {k : Nat} {x : M} (f : Nat → Option M), Pu k x → resB f x = some x
  | k, .non, f, _ => rfl
  | k, .bl _, f, _ => rfl
  | k, .int _, f, _ => rfl
  | k, .str _, f, _ => rfl
  | 0, .tup _, f, p => by cases p
  | 0, .lst _, f, p => by cases p
  | k + 1, .tup xs, f, p => by
    have hs : ∀ ys : List M, (∀ y ∈ ys, Pu k y) → resBs f ys = some ys := by
      intro ys
      induction ys with
      | nil => exact fun _ => rfl
      | cons y ys ih =>
        intro hy
        unfold resBs
        rw [pu_res f (hy y List.mem_cons_self), Option.bind_some, ih fun z hz => hy z (List.mem_cons_of_mem _ hz)]; rfl
    show (resBs f xs).map M.tup = _
    rw [hs xs p.un]; rfl
  | k + 1, .lst xs, f, p => by
    have hs : ∀ ys : List M, (∀ y ∈ ys, Pu k y) → resBs f ys = some ys := by
      intro ys
      induction ys with
      | nil => exact fun _ => rfl
      | cons y ys ih =>
        intro hy
        unfold resBs
        rw [pu_res f (hy y List.mem_cons_self), Option.bind_some, ih fun z hz => hy z (List.mem_cons_of_mem _ hz)]; rfl
    show (resBs f xs).map M.lst = _
    rw [hs xs p.unL]; rfl
  | 0, .dct _ _, f, p => by cases p
  | 0, .ref _, f, p => by cases p
  | 0, .scr _, f, p => by cases p
  | 0, .ty _, f, p => by cases p
  | k + 1, .dct _ _, f, p => by cases p
  | k + 1, .ref _, f, p => by cases p
  | k + 1, .scr _, f, p => by cases p
  | k + 1, .ty _, f, p => by cases p
theorem res_ints {f : Nat → Option M} : ∀ (is : List Int), resBs f (is.map M.int) = some (is.map M.int)
  | [] => rfl
  | i :: is => by
    show (resB f (M.int i)).bind (fun y => (resBs f (is.map M.int)).map (y :: ·)) = _
    rw [res_ints is]; rfl
theorem hp3_res {f : Nat → Option M} : ∀ {g : HpM}, Hp3 g → resOs f g = some g
  | [], _ => rfl
  | o :: g, h => by
    obtain ⟨is, rfl⟩ := h o List.mem_cons_self
    show ((resBs f (is.map M.int)).map MO.lst).bind (fun q => (resOs f g).map (q :: ·)) = _
    rw [res_ints, hp3_res (g := g) fun o ho => h o (List.mem_cons_of_mem _ ho)]; rfl
theorem e_shut {f : FF} {ds : List M} {g : HpM} {R : M → HpM → Prop} (q : Ens (f ds g) fun d h1 => ∃ g' t k, h1 = g' ++ t ∧ g'.length = g.length ∧ Hp3 g' ∧ Pu k d ∧ R d g') : Ens (mSeal f ds g) R :=
  .bnd (q.mono fun d h1 q => by
    obtain ⟨g', t, k, rfl, hl, h3, hp, r⟩ := q
    refine ⟨d, g', ?_, r⟩
    unfold shut
    by_cases hq : (g' ++ t).length = g.length
    · rw [if_pos hq]
      have : t = [] := by
        rw [List.length_append, hl] at hq
        exact List.eq_nil_of_length_eq_zero (by omega)
      rw [this, List.append_nil]
    · rw [if_neg hq, pu_res _ hp, Option.bind_some, ← hl, List.take_left, hp3_res h3]; rfl)
theorem e_append {k : Nat} {h : HpM} {xs : List M} {y : M} {R : M → HpM → Prop} (e : h[k]? = some (.lst xs)) (hl : xs.length < 16777216) (q : R .non (h.set k (.lst (xs ++ [y])))) : Ens (mAppend (.ref k) [y] h) R := ⟨.non, _, by unfold mAppend onL; simp only [e]; rw [if_pos hl]; rfl, q⟩
theorem isL_at {k : Nat} {h : HpM} {xs : List M} (e : h[k]? = some (.lst xs)) : isL (.ref k) h = true := by unfold isL seqL; simp only [e]; rfl
theorem seqL_at {k : Nat} {h : HpM} {xs : List M} (e : h[k]? = some (.lst xs)) : seqL h (.ref k) = some xs := by unfold seqL; simp only [e]
theorem p_l {R : M → Prop} {h : HpM} {xs : List M} {j : Nat} {x : M} (e : xs[j]? = some x) (q : R x) : Enp (ixM (.lst xs) (.int (j : Int)) h) R := ⟨x, by show atI xs (j : Int) = _; rw [atI_nat e], q⟩
theorem p_l0 {R : M → Prop} {h : HpM} {a : M} {xs : List M} (q : R a) : Enp (ixM (.lst (a :: xs)) (.int 0) h) R := p_l (j := 0) rfl q
theorem p_l1 {R : M → Prop} {h : HpM} {a b : M} {xs : List M} (q : R b) : Enp (ixM (.lst (a :: b :: xs)) (.int 1) h) R := p_l (j := 1) rfl q
theorem mem_all {P : M → Bool} {xs : List M} (h : xs.all P = true) {x : M} (hx : x ∈ xs) : P x = true := by rw [List.all_eq_true] at h; exact h x hx
theorem ixN_ok {n : Nat} {i : Int} (h0 : 0 ≤ i) (h1 : i < n) : ixN n i = some i.toNat := by unfold ixN; rw [if_pos h0, if_pos h1]
theorem at1 {g : HpM} {o : MO} {i : Nat} (hi : i = g.length) : (g ++ [o])[i]? = some o := by subst hi; simp
theorem set1 {g : HpM} {o o' : MO} {i : Nat} (hi : i = g.length) : (g ++ [o]).set i o' = g ++ [o'] := by subst hi; simp
theorem p_tupR {R : M → Prop} {h : HpM} {k : Nat} {xs : List M} (e : h[k]? = some (.lst xs)) (q : R (.tup xs)) : Enp (bTuple [.ref k] h) R := ⟨_, by
  show (seqL h (.ref k)).map M.tup = _
  rw [seqL_at e]; rfl, q⟩
theorem p_listT {R : M → Prop} {h : HpM} {xs : List M} (q : R (.lst xs)) : Enp (bList [.tup xs] h) R := ⟨_, rfl, q⟩
theorem e_putL {o i : FE} {x : M} {ρ : EnvM} {g : HpM} {xs : List M} {G : EnvM → HpM → Prop} {k : Nat} {j : Int} (ho : o ρ (g ++ [.lst xs]) = some (.ref k, g ++ [.lst xs])) (hi : i ρ (g ++ [.lst xs]) = some (.int j, g ++ [.lst xs])) (hk : k = g.length) (h0 : 0 ≤ j) (h1 : j < xs.length)
    (q : G ρ (g ++ [.lst (xs.set j.toNat x)])) : Ens (gSubM o i x ρ (g ++ [.lst xs])) G :=
  e_gsub ⟨_, _, ho, _, _, hi, k, j, xs, j.toNat, rfl, rfl, at1 hk, ixN_ok h0 h1, by rw [set1 hk]; exact q⟩
theorem atI_ok {xs : List M} {r : Int} (h0 : 0 ≤ r) (h1 : r < xs.length) : atI xs r = some (xs.getD r.toNat .non) := by
  unfold atI; rw [ixN_ok h0 h1, Option.bind_some, List.getD_eq_getElem?_getD, List.getElem?_eq_getElem (by omega)]; rfl
local macro_rules | `(tactic| walk_at "f") => `(tactic| repeat (first | (with_reducible first | refine e_oInt ?_ | refine p_l0 ?_ | refine p_l1 ?_) | walk_at "e" | (with_reducible first | refine len_ok (by simp) ?_ | refine ⟨_, rfl, ?_⟩)))
theorem reps_one {x : M} : ∀ n : Nat, reps n [x] = List.replicate n x
  | 0 => rfl
  | n + 1 => by
    have ih := reps_one (x := x) n
    unfold reps at ih ⊢
    rw [List.replicate_succ, List.flatten_cons, ih, List.replicate_succ]; rfl
theorem p_mul4 {R : M → Prop} {h : HpM} {x : M} (q : R (.lst (List.replicate 4 x))) : Enp (opMul (.lst [x]) (.int 4) h) R := by
  refine ⟨.lst (reps 4 [x]), ?_, by rw [reps_one]; exact q⟩
  unfold opMul
  simp only [seqL, Option.bind_some]
  rw [if_pos (by simp)]
  rfl
theorem value_in {g t : HpM} {p : Nat} {c : Int} {R : M → HpM → Prop} (hh : In g p c) (m3 : c < 900000000)
    (k : ∀ d g', (numB d || isTxt d) = true → Pu 0 d → In g' p (c + 5) → g'.length = g.length → R d (g' ++ t)) : Ens (m__law_value [.ref p] (g ++ t)) R := by
  refine e_fun rfl ?_
  unfold b__law_value
  walk_at "f"
  refine take_in hh (by decide) (by decide) (by omega) fun r1 g1 h0 h1 hh hl1 => ?_
  refine p_any h0 h1 fun x hx => ?_
  have hx' : (numB x || isTxt x) = true ∧ Pu 0 x := by
    simp only [List.mem_cons, List.not_mem_nil, or_false] at hx
    rcases hx with rfl | rfl | rfl | rfl <;> exact ⟨rfl, rfl⟩
  clear hx
  walk_at "f"
  refine take_in hh (by decide) (by decide) (by omega) fun r2 g2 _ _ hh hl2 => ?_
  walk_at "f"
  refine take_in hh (by decide) (by decide) (by omega) fun r3 g3 _ _ hh hl3 => ?_
  walk_at "f"
  refine take_in hh (by decide) (by decide) (by omega) fun r4 g4 _ _ hh hl4 => ?_
  walk_at "f"
  refine take_in hh (by decide) (by decide) (by omega) fun r5 g5 h0 h1 hh hl5 => ?_
  walk_at "f"
  refine p_any h0 h1 fun z hz => ?_
  have hz' : (numB z || isTxt z) = true ∧ Pu 0 z := by
    simp only [List.mem_cons, List.not_mem_nil, or_false] at hz
    rcases hz with rfl | rfl | rfl | rfl | rfl | rfl | rfl | rfl | rfl
    · exact ⟨rfl, rfl⟩
    · exact ⟨rfl, rfl⟩
    · exact ⟨rfl, rfl⟩
    · exact hx'
    all_goals exact ⟨rfl, Pu.str (by decide +kernel)⟩
  exact k z g5 hz'.1 hz'.2 (hh.mono (by omega)) (by omega)
noncomputable def pq : Nat → M → Bool
  | _, .non => true
  | _, .bl _ => true
  | _, .int _ => true
  | _, .str z => decide (z.length ≤ 100)
  | k + 1, .tup xs => decide (xs.length ≤ 500) && xs.all (pq k)
  | _, _ => false
theorem pq_of0 {n : Nat} {a : M} (h : Pu 0 a) : pq n a = true := by
  cases a with
  | non => cases n <;> rfl
  | bl _ => cases n <;> rfl
  | int _ => cases n <;> rfl
  | str z => cases n <;> exact h
  | _ => cases h
theorem pq_tup {k : Nat} {xs : List M} (hl : xs.length ≤ 500) (h : ∀ y ∈ xs, pq k y = true) : pq (k + 1) (.tup xs) = true := by
  show (decide (xs.length ≤ 500) && xs.all (pq k)) = true
  rw [Bool.and_eq_true, List.all_eq_true]; exact ⟨decide_eq_true hl, h⟩
theorem pq_un {k : Nat} {xs : List M} (h : pq (k + 1) (.tup xs) = true) : xs.length ≤ 500 ∧ ∀ y ∈ xs, pq k y = true := by
  have : (decide (xs.length ≤ 500) && xs.all (pq k)) = true := h
  rw [Bool.and_eq_true, List.all_eq_true] at this
  exact ⟨of_decide_eq_true this.1, this.2⟩
theorem pq_pu : ∀ {k : Nat} {x : M}, pq k x = true → Pu k x
  | k, .non, _ => Pu.non
  | k, .bl _, _ => Pu.bl
  | k, .int _, _ => Pu.int
  | k, .str z, h => Pu.str (by cases k <;> exact of_decide_eq_true h)
  | 0, .tup _, h => by cases h
  | k + 1, .tup xs, h => Pu.tup (by have := (pq_un h).1; omega) fun y hy => pq_pu ((pq_un h).2 y hy)
  | 0, .lst _, h => by cases h
  | 0, .dct _ _, h => by cases h
  | 0, .ref _, h => by cases h
  | 0, .scr _, h => by cases h
  | 0, .ty _, h => by cases h
  | k + 1, .lst _, h => by cases h
  | k + 1, .dct _ _, h => by cases h
  | k + 1, .ref _, h => by cases h
  | k + 1, .scr _, h => by cases h
  | k + 1, .ty _, h => by cases h
theorem pq_mono1 : ∀ {k : Nat} {x : M}, pq k x = true → pq (k + 1) x = true
  | k, .non, _ => rfl
  | k, .bl _, _ => rfl
  | k, .int _, _ => rfl
  | k, .str z, h => by cases k <;> exact h
  | 0, .tup _, h => by cases h
  | k + 1, .tup xs, h => pq_tup (pq_un h).1 fun y hy => pq_mono1 ((pq_un h).2 y hy)
  | 0, .lst _, h => by cases h
  | 0, .dct _ _, h => by cases h
  | 0, .ref _, h => by cases h
  | 0, .scr _, h => by cases h
  | 0, .ty _, h => by cases h
  | k + 1, .lst _, h => by cases h
  | k + 1, .dct _ _, h => by cases h
  | k + 1, .ref _, h => by cases h
  | k + 1, .scr _, h => by cases h
  | k + 1, .ty _, h => by cases h
theorem pq_mono {k m : Nat} {x : M} (h : pq k x = true) (hm : k ≤ m) : pq m x = true := by
  induction hm with
  | refl => exact h
  | step _ ih => exact pq_mono1 ih
theorem pq_str {k : Nat} {z : Str} (h : z.length ≤ 100) : pq k (.str z) = true := by cases k <;> exact decide_eq_true h
theorem pq_int {k : Nat} {i : Int} : pq k (.int i) = true := by cases k <;> rfl
theorem pq1 {k : Nat} {a : M} (ha : pq k a = true) : pq (k + 1) (.tup [a]) = true := pq_tup (by simp) (by intro y hy; simp at hy; cases hy; assumption)
theorem pq2 {k : Nat} {a b : M} (ha : pq k a = true) (hb : pq k b = true) : pq (k + 1) (.tup [a, b]) = true := pq_tup (by simp) (by intro y hy; simp at hy; rcases hy with rfl | rfl <;> assumption)
theorem pq3 {k : Nat} {a b c : M} (ha : pq k a = true) (hb : pq k b = true) (hc : pq k c = true) : pq (k + 1) (.tup [a, b, c]) = true := pq_tup (by simp) (by intro y hy; simp at hy; rcases hy with rfl | rfl | rfl <;> assumption)
theorem pq4 {k : Nat} {a b c d : M} (ha : pq k a = true) (hb : pq k b = true) (hc : pq k c = true) (hd : pq k d = true) : pq (k + 1) (.tup [a, b, c, d]) = true := pq_tup (by simp) (by intro y hy; simp at hy; rcases hy with rfl | rfl | rfl | rfl <;> assumption)
theorem pq5 {k : Nat} {a b c d e : M} (ha : pq k a = true) (hb : pq k b = true) (hc : pq k c = true) (hd : pq k d = true) (he : pq k e = true) : pq (k + 1) (.tup [a, b, c, d, e]) = true := pq_tup (by simp) (by intro y hy; simp at hy; rcases hy with rfl | rfl | rfl | rfl | rfl <;> assumption)
def IsT (n : Nat) (t : M) : Prop := pq n t = true ∧ ∀ m, n ≤ m → testB m t = true
theorem IsT.any {n : Nat} : IsT (n + 1) (.tup [.str "any"]) := ⟨pq1 (pq_str (by decide +kernel)), fun m hm => by
  obtain ⟨m, rfl⟩ : ∃ q, m = q + 1 := ⟨m - 1, by omega⟩
  exact testB_any⟩
theorem IsT.has {n : Nat} {a : M} (h1 : nameB a = true) (h2 : Pu 0 a) : IsT (n + 1) (.tup [.str "has", a]) := ⟨pq2 (pq_str (by decide +kernel)) (pq_of0 h2), fun m hm => by
  obtain ⟨m, rfl⟩ : ∃ q, m = q + 1 := ⟨m - 1, by omega⟩
  rw [testB_has]; exact h1⟩
theorem IsT.is {n : Nat} {w : Str} {a b : M} (hw : w = "is" ∨ w = "under" ∨ w = "over") (h1 : nameB a = true) (h2 : Pu 0 a) (h3 : (numB b || isTxt b) = true) (h4 : Pu 0 b) : IsT (n + 1) (.tup [.str w, a, b]) := ⟨pq3 (pq_str (by rcases hw with rfl | rfl | rfl <;> decide +kernel)) (pq_of0 h2) (pq_of0 h4), fun m hm => by
  obtain ⟨m, rfl⟩ : ∃ q, m = q + 1 := ⟨m - 1, by omega⟩
  rw [testB_is hw, h1, h3]; rfl⟩
theorem IsT.both {n : Nat} {w : Str} {a b : M} (hw : w = "both" ∨ w = "either") (h1 : IsT n a) (h2 : IsT n b) : IsT (n + 1) (.tup [.str w, a, b]) := ⟨pq3 (pq_str (by rcases hw with rfl | rfl <;> decide +kernel)) h1.1 h2.1, fun m hm => by
  obtain ⟨m, rfl⟩ : ∃ q, m = q + 1 := ⟨m - 1, by omega⟩
  rw [testB_both hw, h1.2 m (by omega), h2.2 m (by omega)]; rfl⟩
theorem IsT.not {n : Nat} {a : M} (h1 : IsT n a) : IsT (n + 1) (.tup [.str "not", a]) := ⟨pq2 (pq_str (by decide +kernel)) h1.1, fun m hm => by
  obtain ⟨m, rfl⟩ : ∃ q, m = q + 1 := ⟨m - 1, by omega⟩
  rw [testB_not]; exact h1.2 m (by omega)⟩
theorem IsT.mono {n n' : Nat} {w : M} (h : IsT n w) (hn : n ≤ n') : IsT n' w := ⟨pq_mono h.1 hn, fun m hm => h.2 m (by omega)⟩
noncomputable def kT : Nat → Int
  | 0 => 0
  | n + 1 => 20 + 2 * kT n
theorem kT_nn : ∀ n, 0 ≤ kT n
  | 0 => by decide
  | n + 1 => by have := kT_nn n; unfold kT; omega
theorem test_in : ∀ {n : Nat} {d : Int} {g t : HpM} {p : Nat} {c : Int} {R : M → HpM → Prop}, In g p c → d < n → 0 < n → c + kT n < 900000000 →
    (∀ w g', IsT (d.toNat + 1) w → In g' p (c + kT n) → g'.length = g.length → R w (g' ++ t)) → Ens (m__law_test n [.ref p, .int d] (g ++ t)) R
  | 0, d, g, t, p, c, R, _, _, h0, _, _ => by omega
  | n + 1, d, g, t, p, c, R, hh, hd, _, hc, k => by
    have hkn := kT_nn n
    have hkk : kT (n + 1) = 20 + 2 * kT n := rfl
    unfold m__law_test
    refine e_fun rfl ?_
    unfold b__law_test
    walk_at "f"
    refine take_in hh (by decide) (by decide) (by omega) fun how g1 h10 h11 hh hl1 => ?_
    walk_at "f"
    refine take_in hh (by decide) (by decide) (by omega) fun r2 g2 h0 h1 hh hl2 => ?_
    refine p_any h0 h1 fun nm hnm => ?_
    have hnm' : nameB nm = true ∧ pureB 0 nm = true := by
      have hall : ([M.str "b", .str "age", .str "zebra", .str "no"].all fun x => nameB x && pureB 0 x) = true := by decide +kernel
      have := mem_all hall hnm
      rw [Bool.and_eq_true] at this
      exact this
    clear hnm h0 h1
    have rest : Ens (sSeq (sAsg (mLst (mCons (mTup (mCons (mC (.str "has")) (mCons (mVar 3) mNil))) (mCons (mTup (mCons (mC (.str "is")) (mCons (mVar 3) (mCons (mCall m__law_value (mCons (mVar 0) mNil)) mNil)))) (mCons (mTup (mCons (mC (.str "under")) (mCons (mVar 3) (mCons (mCall m__law_value (mCons (mVar 0) mNil)) mNil)))) mNil)))) (gNm 6))
  (sRet (mOp ixM (mOp opAdd (mOp opAdd (mVar 6) (mLst (mCons (mTup (mCons (mC (.str "over")) (mCons (mVar 3) (mCons (mCall m__law_value (mCons (mVar 0) mNil)) mNil)))) mNil))) (mOp opMul (mLst (mCons (mTup (mCons (mC (.str "any")) mNil)) mNil)) (mC (.int 4)))) (mVar 2))) [some (.ref p), some (.int d), some (.int how), some nm, none, none, none] (g2 ++ t)) (FQ R) := by
      walk_at "f"
      refine value_in hh (by omega) fun v1 g3 a1 b1 hh hl3 => ?_
      walk_at "f"
      refine value_in hh (by omega) fun v2 g4 a2 b2 hh hl4 => ?_
      walk_at "f"
      refine value_in hh (by omega) fun v3 g5 a3 b3 hh hl5 => ?_
      walk_at "f"
      refine p_addL (by simp) ?_
      walk_at "f"
      refine p_mul4 ?_
      walk_at "f"
      refine p_addL (by simp) ?_
      walk_at "f"
      refine p_any h10 (by simpa using h11) fun z hz => ?_
      refine k z _ ?_ (hh.mono (by omega)) (by omega)
      simp only [List.replicate_succ, List.replicate_zero, List.cons_append, List.nil_append, List.mem_cons, List.not_mem_nil, or_false] at hz
      rcases hz with rfl | rfl | rfl | rfl | rfl | rfl | rfl | rfl
      · exact .has hnm'.1 hnm'.2
      · exact .is (.inl rfl) hnm'.1 hnm'.2 a1 b1
      · exact .is (.inr (.inl rfl)) hnm'.1 hnm'.2 a2 b2
      · exact .is (.inr (.inr rfl)) hnm'.1 hnm'.2 a3 b3
      all_goals exact .any
    walk_at "f"
    refine ite_b (fun q1 => ?_) (fun q1 => ?_)
    · walk_at "f"
      refine ite_b (fun q2 => ?_) (fun q2 => ?_)
      · have q1' := of_decide_eq_true q1
        have q2' := of_decide_eq_true q2
        have dN : (d - 1).toNat + 1 = d.toNat := by omega
        walk_at "f"
        refine e_par ?_
        walk_at "f"
        refine test_in hh (by omega) (by omega) (by omega) fun w g3 hw hh hl3 => ?_
        walk_at "f"
        refine test_in hh (by omega) (by omega) (by omega) fun v g4 hv hh hl4 => ?_
        walk_at "f"
        refine ⟨_, _, rfl, ?_⟩
        walk_at "f"
        refine p_any (by omega) (by simp; omega) fun z hz => ?_
        refine k z _ ?_ (hh.mono (by omega)) (by omega)
        rw [dN] at hw hv
        simp only [List.mem_cons, List.not_mem_nil, or_false] at hz
        rcases hz with rfl | rfl | rfl
        · exact .both (.inl rfl) hw hv
        · exact .both (.inr rfl) hw hv
        · exact .not hw
      · refine e_next ?_
        refine e_sqN ?_
        exact rest
    · refine ite_f ?_
      refine e_next ?_
      refine e_sqN ?_
      exact rest
def IsW (n : Nat) (t : M) : Prop := pq n t = true ∧ ∀ m, n ≤ m → wayB m t = true
theorem IsW.mono {n n' : Nat} {w : M} (h : IsW n w) (hn : n ≤ n') : IsW n' w := ⟨pq_mono h.1 hn, fun m hm => h.2 m (by omega)⟩
theorem IsW.step {n : Nat} {a b : M} (h1 : (isN a || nameB a) = true) (h2 : Pu 0 a) (h3 : inTx ["forth", "back", "either"] b = true) (h4 : Pu 0 b) : IsW (n + 1) (.tup [.str "step", a, b]) := ⟨pq3 (pq_str (by decide +kernel)) (pq_of0 h2) (pq_of0 h4), fun m hm => by
  obtain ⟨m, rfl⟩ : ∃ q, m = q + 1 := ⟨m - 1, by omega⟩
  rw [wayB_step, h1, h3]; rfl⟩
theorem IsW.empty {n : Nat} : IsW (n + 1) (.tup [.str "empty"]) := ⟨pq1 (pq_str (by decide +kernel)), fun m hm => by
  obtain ⟨m, rfl⟩ : ∃ q, m = q + 1 := ⟨m - 1, by omega⟩
  exact wayB_empty⟩
theorem IsW.again {n : Nat} {w : M} (h : IsW n w) : IsW (n + 1) (.tup [.str "again", w]) := ⟨pq2 (pq_str (by decide +kernel)) h.1, fun m hm => by
  obtain ⟨m, rfl⟩ : ∃ q, m = q + 1 := ⟨m - 1, by omega⟩
  rw [wayB_again]; exact h.2 m (by omega)⟩
theorem IsW.many {n : Nat} {w : M} {i j : Int} (h : IsW n w) (ht : timesB (.int i) (.int j) = true) : IsW (n + 1) (.tup [.str "many", w, .int i, .int j]) := ⟨pq4 (pq_str (by decide +kernel)) h.1 pq_int pq_int, fun m hm => by
  obtain ⟨m, rfl⟩ : ∃ q, m = q + 1 := ⟨m - 1, by omega⟩
  rw [wayB_many, ht, h.2 m (by omega)]; rfl⟩
theorem IsW.two {n : Nat} {s : Str} {w v : M} (hs : s = "then" ∨ s = "or") (h : IsW n w) (h' : IsW n v) : IsW (n + 1) (.tup [.str s, w, v]) := ⟨pq3 (pq_str (by rcases hs with rfl | rfl <;> decide +kernel)) h.1 h'.1, fun m hm => by
  obtain ⟨m, rfl⟩ : ∃ q, m = q + 1 := ⟨m - 1, by omega⟩
  rw [wayB_two hs, h.2 m (by omega), h'.2 m (by omega)]; rfl⟩
theorem way_in : ∀ {n : Nat} {d : Int} {g t : HpM} {p : Nat} {c : Int} {R : M → HpM → Prop}, In g p c → d < n → 0 < n → c + kW n < 900000000 →
    (∀ w g', IsW (d.toNat + 1) w → In g' p (c + kW n) → g'.length = g.length → R w (g' ++ t)) → Ens (m__law_way n [.ref p, .int d] (g ++ t)) R
  | 0, d, g, t, p, c, R, _, _, h0, _, _ => by omega
  | n + 1, d, g, t, p, c, R, hh, hd, _, hc, k => by
    have hkn := kW_nn n
    have hkk : kW (n + 1) = 4 + 2 * kW n := rfl
    unfold m__law_way
    refine e_fun rfl ?_
    unfold b__law_way
    walk_at "f"
    refine take_in hh (by decide) (by decide) (by omega) fun how g1 h10 h11 hh hl1 => ?_
    have leaf : ∀ S : FS, Ens (sSeq (sAsg (mOp ixM (mLst (mCons (mC (.str "forth")) (mCons (mC (.str "back")) (mCons (mC (.str "either")) mNil)))) (mCall m__law_take (mCons (mVar 0) (mCons (mC (.int 3)) mNil)))) (gNm 3)) (sRet (mTup (mCons (mC (.str "step")) (mCons (mOp ixM (mLst (mCons (mC (.str "knows")) (mCons (mC (.str "a")) (mCons (mC (.str "likes")) (mCons (mC .non) mNil))))) (mCall m__law_take (mCons (mVar 0) (mCons (mC (.int 4)) mNil)))) (mCons (mVar 3) mNil))))) [some (.ref p), some (.int d), some (.int how), none, none] (g1 ++ t)) (SQ S (FQ R)) := by
      intro S
      walk_at "f"
      refine take_in hh (by decide) (by decide) (by omega) fun r3 g3 h0 h1 hh hl3 => ?_
      refine p_any h0 h1 fun y hy => ?_
      have hy' : inTx ["forth", "back", "either"] y = true ∧ pureB 0 y = true := by
        have hall : ([M.str "forth", .str "back", .str "either"].all fun x => inTx ["forth", "back", "either"] x && pureB 0 x) = true := by decide +kernel
        have := mem_all hall hy
        rw [Bool.and_eq_true] at this
        exact this
      clear hy h0 h1
      walk_at "f"
      refine take_in hh (by decide) (by decide) (by omega) fun r2 g2 h0 h1 hh hl2 => ?_
      refine p_any h0 h1 fun x hx => ?_
      have hx' : (isN x || nameB x) = true ∧ pureB 0 x = true := by
        have hall : ([M.str "knows", .str "a", .str "likes", .non].all fun x => (isN x || nameB x) && pureB 0 x) = true := by decide +kernel
        have := mem_all hall hx
        rw [Bool.and_eq_true] at this
        exact this
      walk_at "f"
      exact k _ _ (.step hx'.1 hx'.2 hy'.1 hy'.2) (hh.mono (by omega)) (by omega)
    walk_at "f"
    refine ite_b (fun q1 => ?_) (fun q1 => ?_)
    · refine ite_t ?_
      exact leaf _
    walk_at "f"
    refine ite_b (fun q2 => ?_) (fun q2 => ?_)
    · exact leaf _
    clear leaf
    have q1' := of_decide_eq_false q1
    have q2' := of_decide_eq_false q2
    have dN : (d - 1).toNat + 1 = d.toNat := by omega
    walk_at "f"
    refine ite_b (fun q3 => ?_) (fun q3 => ?_)
    · walk_at "f"
      refine way_in hh (by omega) (by omega) (by omega) fun w g2 hw hh hl2 => ?_
      walk_at "f"
      exact k _ _ ((hw.mono (by omega)).again) (hh.mono (by omega)) (by omega)
    have q3' := of_decide_eq_false q3
    walk_at "f"
    refine ite_b (fun q5 => ?_) (fun q5 => ?_)
    · walk_at "f"
      refine take_in hh (by decide) (by decide) (by omega) fun r3 g3 h30 h31 hh hl3 => ?_
      walk_at "f"
      refine way_in hh (by omega) (by omega) (by omega) fun w g2 hw hh hl2 => ?_
      walk_at "f"
      refine take_in hh (by decide) (by decide) (by omega) fun r4 g4 h40 h41 hh hl4 => ?_
      walk_at "f"
      refine k _ _ ((hw.mono (by omega)).many ?_) (hh.mono (by omega)) (by omega)
      show (decide (0 ≤ r3) && (decide (r3 ≤ r3 + r4) && decide (r3 + r4 ≤ 6))) = true
      rw [decide_eq_true h30, decide_eq_true (show r3 ≤ r3 + r4 by omega), decide_eq_true (show r3 + r4 ≤ 6 by omega)]; rfl
    have q5' : how ≠ 5 := by intro e; rw [e] at q5; cases q5
    walk_at "f"
    refine ite_b (fun q6 => ?_) (fun q6 => ?_)
    · walk_at "f"
      refine way_in hh (by omega) (by omega) (by omega) fun w g2 hw hh hl2 => ?_
      walk_at "f"
      refine take_in hh (by decide) (by decide) (by omega) fun r4 g4 h40 h41 hh hl4 => ?_
      walk_at "f"
      refine p_any h40 (by simpa using h41) fun z hz => ?_
      refine k _ _ ?_ (hh.mono (by omega)) (by omega)
      rw [dN] at hw
      simp only [List.mem_cons, List.not_mem_nil, or_false] at hz
      rcases hz with rfl | rfl
      · exact .empty
      · exact hw.again
    have q6' : how ≠ 6 := by intro e; rw [e] at q6; cases q6
    walk_at "f"
    refine p_any (by omega) (by simp; omega) fun y hy => ?_
    walk_at "f"
    refine way_in hh (by omega) (by omega) (by omega) fun w g2 hw hh hl2 => ?_
    walk_at "f"
    refine way_in hh (by omega) (by omega) (by omega) fun v g3 hv hh hl3 => ?_
    walk_at "f"
    refine k _ _ ?_ (hh.mono (by omega)) (by omega)
    simp only [List.mem_cons, List.not_mem_nil, or_false] at hy
    rw [dN] at hw hv
    rcases hy with rfl | rfl
    · exact .two (.inl rfl) hw hv
    · exact .two (.inr rfl) hw hv
theorem bows_in {g : HpM} {p : Nat} {c : Int} {many : Int} {R : M → HpM → Prop} (hh : In g p c) (m3 : c < 800000000) (hm0 : 0 < many) (hm1 : many ≤ 8)
    (k : ∀ xs g', (∀ x ∈ xs, bowB many x = true ∧ pq 4 x = true) → xs.length ≤ 5 → In g' p (c + 5000) → g'.length = g.length → R (.tup xs) g') : Ens (m__law_bows [.ref p, .int many, .int 2] g) R := by
  refine e_shut ?_
  have lift : ∀ {d : M} {h1 : HpM}, (∃ g' t, h1 = g' ++ t ∧ g'.length = g.length ∧ In g' p (c + 5000) ∧ ∃ xs, d = .tup xs ∧ (∀ x ∈ xs, bowB many x = true ∧ pq 4 x = true) ∧ xs.length ≤ 5) → ∃ g' t k, h1 = g' ++ t ∧ g'.length = g.length ∧ Hp3 g' ∧ Pu k d ∧ R d g' := by
    rintro d h1 ⟨g', t, rfl, hl, hi, xs, rfl, hx, hl6⟩
    exact ⟨g', t, 5, rfl, hl, hi.2, Pu.tup (by omega) fun y hy => pq_pu (hx y hy).2, k xs g' hx hl6 hi hl⟩
  refine Ens.mono ?_ fun d h1 q => lift q
  clear lift k
  refine e_fun rfl ?_
  unfold b__law_bows
  walk_at "f"
  refine e_iR1 ?_
  walk_at "f"
  refine take_in hh (by decide) (by decide) (by omega) fun r1 g1 h0 h1 hh hl1 => ?_
  refine p_any h0 h1 fun x hx => ?_
  obtain ⟨j, rfl, hj0, hj1⟩ := inR_int (mem_all (P := inR 4) (xs := [M.int 1, .int 1, .int 2, .int 3, .int 1, .int 2]) (by decide +kernel) hx)
  clear hx h0 h1
  walk_at "f"
  refine ⟨⟨by omega, by omega⟩, ?_⟩
  have hk8 : kW 8 = 1020 := rfl
  refine e_over (fun i ρ h' => ∃ g' xs v4 v5, h' = g' ++ [.lst xs] ∧ In g' p (c + 1 + 1030 * (i : Int)) ∧ g'.length = g.length ∧ xs.length = i ∧ (∀ x ∈ xs, bowB many x = true ∧ pq 4 x = true) ∧ ρ = [some (.ref p), some (.int many), some (.int 2), some (.ref g.length), v4, v5]) ⟨g1, [], none, none, rfl, hh.mono (by simp), hl1, rfl, by simp, by rfl⟩ ?_ ?_
  · rintro i x ρ h' hx ⟨g', xs, v4, v5, rfl, hh, hl', hxl, hxs, rfl⟩
    have hi : i < 3 := by
      have := (List.getElem?_eq_some_iff.mp hx).1
      simp at this; omega
    walk_at "f"
    refine take_in hh (by decide) (by decide) (by omega) fun r2 g2 h0 h1 hh hl2 => ?_
    refine p_any h0 h1 fun so hso => ?_
    have s1 : inTx ["all", "short", "plain", "any"] so = true := mem_all (xs := [M.str "all", .str "short", .str "plain", .str "any", .str "all"]) (by decide +kernel) hso
    have s2 : Pu 0 so := mem_all (P := pureB 0) (xs := [M.str "all", .str "short", .str "plain", .str "any", .str "all"]) (by decide +kernel) hso
    clear hso h0 h1
    walk_at "f"
    refine e_mt ?_
    walk_at "f"
    refine ⟨isL_at (at1 (by omega)), ?_⟩
    walk_at "f"
    refine take_in hh hm0 (by omega) (by omega) fun a g3 a0 a1 hh hl3 => ?_
    walk_at "f"
    refine take_in hh hm0 (by omega) (by omega) fun b g4 b0 b1 hh hl4 => ?_
    walk_at "f"
    refine way_in hh (by decide) (by decide) (by omega) fun w g5 hw hh hl5 => ?_
    walk_at "f"
    refine e_append (at1 (by omega)) (by omega) ?_
    rw [set1 (by omega)]
    walk_at "f"
    refine ⟨g5, _, _, _, rfl, hh.mono (by omega), by omega, by simp [hxl], ?_, rfl⟩
    intro y hy
    rcases List.mem_append.mp hy with hy | hy
    · exact hxs y hy
    · cases List.mem_singleton.mp hy
      refine ⟨?_, pq4 pq_int pq_int (pq_of0 s2) (pq_mono hw.1 (by decide))⟩
      have ea : snumB many (.int a) = true := by simp [snumB]; omega
      have eb : snumB many (.int b) = true := by simp [snumB]; omega
      simp [bowB, ea, eb, s1, hw.2 8 (by decide)]
  · rintro ρ h' ⟨g', xs, v4, v5, rfl, hh, hl', hxl, hxs, rfl⟩
    walk_at "f"
    refine p_tupR (at1 (by omega)) ?_
    walk_at "f"
    have : xs.length ≤ 3 := by simp at hxl; omega
    refine ⟨g', _, rfl, hl', hh.mono (by simp at hxl ⊢; omega), xs, rfl, hxs, by omega⟩
theorem two_of {xs : List M} (h : xs.length = 2) : ∃ a b, xs = [a, b] := by
  match xs, h with
  | [a, b], _ => exact ⟨a, b, rfl⟩
theorem pairs_in {g : HpM} {p : Nat} {c : Int} {many : Int} {R : M → HpM → Prop} (hh : In g p c) (m3 : c < 800000000) (hm0 : 0 < many) (hm1 : many ≤ 8)
    (k : ∀ xs g', (∀ x ∈ xs, pairB many x = true ∧ pq 4 x = true) → xs.length ≤ 5 → In g' p (c + 5000) → g'.length = g.length → R (.tup xs) g') : Ens (m__law_pairs [.ref p, .int many] g) R := by
  refine e_shut ?_
  have lift : ∀ {d : M} {h1 : HpM}, (∃ g' t, h1 = g' ++ t ∧ g'.length = g.length ∧ In g' p (c + 5000) ∧ ∃ xs, d = .tup xs ∧ (∀ x ∈ xs, pairB many x = true ∧ pq 4 x = true) ∧ xs.length ≤ 5) → ∃ g' t k, h1 = g' ++ t ∧ g'.length = g.length ∧ Hp3 g' ∧ Pu k d ∧ R d g' := by
    rintro d h1 ⟨g', t, rfl, hl, hi, xs, rfl, hx, hl6⟩
    exact ⟨g', t, 5, rfl, hl, hi.2, Pu.tup (by omega) fun y hy => pq_pu (hx y hy).2, k xs g' hx hl6 hi hl⟩
  refine Ens.mono ?_ fun d h1 q => lift q
  clear lift k
  refine e_fun rfl ?_
  unfold b__law_pairs
  walk_at "f"
  refine e_iR1 ?_
  walk_at "f"
  refine take_in hh (by decide) (by decide) (by omega) fun r1 g1 h0 h1 hh hl1 => ?_
  refine p_any h0 h1 fun x hx => ?_
  obtain ⟨j, rfl, hj0, hj1⟩ := inR_int (mem_all (P := inR 6) (xs := [M.int 0, .int 0, .int 0, .int 1, .int 2, .int 5]) (by decide +kernel) hx)
  clear hx h0 h1
  walk_at "f"
  refine ⟨⟨by omega, by omega⟩, ?_⟩
  refine e_over (fun i ρ h' => ∃ g' xs v3 v4 v5 v6 v7, h' = g' ++ [.lst xs] ∧ In g' p (c + 1 + 10 * (i : Int)) ∧ g'.length = g.length ∧ xs.length = i ∧ (∀ x ∈ xs, pairB many x = true ∧ pq 4 x = true) ∧ ρ = [some (.ref p), some (.int many), some (.ref g.length), v3, v4, v5, v6, v7]) ⟨g1, [], none, none, none, none, none, rfl, hh.mono (by simp), hl1, rfl, by simp, by rfl⟩ ?_ ?_
  · rintro i x ρ h' hx ⟨g', xs, v3, v4, v5, v6, v7, rfl, hh, hl', hxl, hxs, rfl⟩
    have hi : i < 5 := by
      have := (List.getElem?_eq_some_iff.mp hx).1
      simp at this; omega
    walk_at "f"
    refine e_par ?_
    walk_at "f"
    refine take_in hh hm0 (by omega) (by omega) fun a g3 a0 a1 hh hl3 => ?_
    walk_at "f"
    refine take_in hh hm0 (by omega) (by omega) fun b g4 b0 b1 hh hl4 => ?_
    walk_at "f"
    refine ⟨_, _, rfl, ?_⟩
    walk_at "f"
    refine e_iR1 ?_
    walk_at "f"
    refine ⟨⟨by decide, by decide⟩, by simp, ?_⟩
    refine e_over2 (fun q acc h' => ∃ g', h' = g' ++ [.lst xs] ∧ In g' p (c + 1 + 10 * (i : Int) + 2 + (q : Int)) ∧ g'.length = g.length ∧ acc.length = q ∧ ∀ x ∈ acc, nameB x = true ∧ Pu 0 x) ⟨g4, rfl, hh.mono (by omega), by omega, rfl, by simp⟩ ?_ ?_
    · rintro q y acc h' hy ⟨g5, rfl, hh, hl5, ha, hn⟩
      have hq : q < 2 := by
        have := (List.getElem?_eq_some_iff.mp hy).1
        simpa using this
      walk_at "f"
      refine take_in hh (by decide) (by decide) (by omega) fun r6 g6 h0 h1 hh hl6 => ?_
      refine p_any h0 h1 fun nm hnm => ?_
      have hnm' : nameB nm = true ∧ pureB 0 nm = true := by
        have hall : ([M.str "b", .str "age", .str "zebra", .str "b", .str "age", .str "no"].all fun x => nameB x && pureB 0 x) = true := by decide +kernel
        have := mem_all hall hnm
        rw [Bool.and_eq_true] at this
        exact this
      refine ⟨g6, rfl, hh.mono (by omega), by omega, by simp [ha], ?_⟩
      intro z hz
      rcases List.mem_append.mp hz with hz | hz
      · exact hn z hz
      · cases List.mem_singleton.mp hz; exact hnm'
    rintro acc h' ⟨g5, rfl, hh, hl5, ha, hn⟩
    obtain ⟨n0, n1, rfl⟩ := two_of (by simpa using ha)
    obtain ⟨w0, u0⟩ := hn n0 (by simp)
    obtain ⟨w1, u1⟩ := hn n1 (by simp)
    replace hh : In g5 p (c + 1 + 10 * (i : Int) + 4) := hh.mono (by simp; omega)
    clear hn ha
    walk_at "f"
    refine e_mt ?_
    walk_at "f"
    refine ⟨isL_at (at1 (by omega)), ?_⟩
    walk_at "f"
    refine take_in hh (by decide) (by decide) (by omega) fun r7 g7 h0 h1 hh hl7 => ?_
    refine p_any h0 h1 fun z hz => ?_
    walk_at "f"
    refine e_append (at1 (by omega)) (by omega) ?_
    rw [set1 (by omega)]
    walk_at "f"
    refine ⟨g7, _, _, _, _, _, _, rfl, hh.mono (by omega), by omega, by simp [hxl], ?_, rfl⟩
    intro y hy
    rcases List.mem_append.mp hy with hy | hy
    · exact hxs y hy
    · cases List.mem_singleton.mp hy
      have ea : snumB many (.int a) = true := by simp [snumB]; omega
      have eb : snumB many (.int b) = true := by simp [snumB]; omega
      simp only [List.mem_cons, List.not_mem_nil, or_false] at hz
      rcases hz with rfl | rfl | rfl
      · have e0 : isTx "unlike" (.str "unlike") = true := by decide +kernel
        exact ⟨by simp [pairB, e0, ea, eb], pq3 (pq_str (by decide +kernel)) pq_int pq_int⟩
      · have e0 : inTx ["same", "under"] (.str "same") = true := by decide +kernel
        exact ⟨by simp [pairB, e0, ea, eb, w0, w1], pq5 (pq_str (by decide +kernel)) pq_int (pq_of0 u0) pq_int (pq_of0 u1)⟩
      · have e0 : inTx ["same", "under"] (.str "under") = true := by decide +kernel
        exact ⟨by simp [pairB, e0, ea, eb, w0, w1], pq5 (pq_str (by decide +kernel)) pq_int (pq_of0 u0) pq_int (pq_of0 u1)⟩
  · rintro ρ h' ⟨g', xs, v3, v4, v5, v6, v7, rfl, hh, hl', hxl, hxs, rfl⟩
    walk_at "f"
    refine p_tupR (at1 (by omega)) ?_
    walk_at "f"
    have : xs.length ≤ 5 := by simp at hxl; omega
    refine ⟨g', _, rfl, hl', hh.mono (by simp at hxl ⊢; omega), xs, rfl, hxs, by omega⟩
theorem spots_in {g : HpM} {p : Nat} {c : Int} {many : Int} {R : M → HpM → Prop} (hh : In g p c) (m3 : c < 800000000) (hm0 : 0 < many) (hm1 : many ≤ 8)
    (k : ∀ xs g', (∀ x ∈ xs, spotB x = true ∧ pq 3 x = true) → (xs.length : Int) = many → In g' p (c + 5000) → g'.length = g.length → R (.tup xs) g') : Ens (m__law_spots [.ref p, .int many] g) R := by
  refine e_shut ?_
  have lift : ∀ {d : M} {h1 : HpM}, (∃ g' t, h1 = g' ++ t ∧ g'.length = g.length ∧ In g' p (c + 5000) ∧ ∃ xs, d = .tup xs ∧ (∀ x ∈ xs, spotB x = true ∧ pq 3 x = true) ∧ (xs.length : Int) = many) → ∃ g' t k, h1 = g' ++ t ∧ g'.length = g.length ∧ Hp3 g' ∧ Pu k d ∧ R d g' := by
    rintro d h1 ⟨g', t, rfl, hl, hi, xs, rfl, hx, hl6⟩
    exact ⟨g', t, 4, rfl, hl, hi.2, Pu.tup (by omega) fun y hy => pq_pu (hx y hy).2, k xs g' hx hl6 hi hl⟩
  refine Ens.mono ?_ fun d h1 q => lift q
  clear lift k
  refine e_fun rfl ?_
  unfold b__law_spots
  walk_at "f"
  refine take_in hh (by decide) (by decide) (by omega) fun ez g1 h0 h1 hh hl1 => ?_
  clear h0 h1
  walk_at "f"
  refine e_iR1 ?_
  walk_at "f"
  refine ⟨⟨by omega, by omega⟩, ?_⟩
  have hk4 : kT 4 = 300 := rfl
  refine e_over (fun i ρ h' => ∃ g' xs v4 v5 v6, h' = g' ++ [.lst xs] ∧ In g' p (c + 1 + 310 * (i : Int)) ∧ g'.length = g.length ∧ xs.length = i ∧ (∀ x ∈ xs, spotB x = true ∧ pq 3 x = true) ∧ ρ = [some (.ref p), some (.int many), some (.ref g.length), some (.int ez), v4, v5, v6]) ⟨g1, [], none, none, none, rfl, hh.mono (by simp), hl1, rfl, by simp, by rfl⟩ ?_ ?_
  · rintro i x ρ h' hx ⟨g', xs, v4, v5, v6, rfl, hh, hl', hxl, hxs, rfl⟩
    have hi : i < 8 := by
      have := (List.getElem?_eq_some_iff.mp hx).1
      simp at this; omega
    walk_at "f"
    refine take_in hh (by decide) (by decide) (by omega) fun r2 g2 h0 h1 hh hl2 => ?_
    refine p_any h0 h1 fun kd hkd => ?_
    have kd' : (isN kd || nameB kd) = true ∧ pureB 0 kd = true := by
      have hall : ([M.non, .non, .str "person", .str "b", .str "town"].all fun x => (isN x || nameB x) && pureB 0 x) = true := by decide +kernel
      have := mem_all hall hkd
      rw [Bool.and_eq_true] at this
      exact this
    clear hkd h0 h1
    walk_at "f"
    refine take_in hh (by decide) (by decide) (by omega) fun r3 g3 h30 h31 hh hl3 => ?_
    walk_at "f"
    refine test_in hh (by omega) (by decide) (by omega) fun te g4 hte hh hl4 => ?_
    replace hte : IsT 2 te := hte.mono (by omega)
    walk_at "f"
    have fin : ∀ (kd te : M) (g4 : HpM), (isN kd || nameB kd) = true → Pu 0 kd → IsT 2 te → In g4 p (c + 1 + 310 * (i : Int) + 305) → g4.length = g.length → Ens (sDrop (mMt isL mAppend (mVar 2) (mCons (mTup (mCons (mVar 5) (mCons (mVar 6) mNil))) mNil)) [some (.ref p), some (.int many), some (.ref g.length), some (.int ez), some x, some kd, some te] (g4 ++ [.lst xs])) (LQ (fun ρ h' => ∃ g' xs v4 v5 v6, h' = g' ++ [.lst xs] ∧ In g' p (c + 1 + 310 * ((i + 1 : Nat) : Int)) ∧ g'.length = g.length ∧ xs.length = i + 1 ∧ (∀ x ∈ xs, spotB x = true ∧ pq 3 x = true) ∧ ρ = [some (.ref p), some (.int many), some (.ref g.length), some (.int ez), v4, v5, v6]) (SQ (sRet (mCB bTuple (mCons (mVar 2) mNil))) (FQ fun d h1 => ∃ g' t, h1 = g' ++ t ∧ g'.length = g.length ∧ In g' p (c + 5000) ∧ ∃ xs, d = .tup xs ∧ (∀ x ∈ xs, spotB x = true ∧ pq 3 x = true) ∧ (xs.length : Int) = many))) := by
      intro kd te g4 k1 k2 ht hh hl4
      walk_at "f"
      refine e_mt ?_
      walk_at "f"
      refine ⟨isL_at (at1 (by omega)), ?_⟩
      walk_at "f"
      refine e_append (at1 (by omega)) (by omega) ?_
      rw [set1 (by omega)]
      walk_at "f"
      refine ⟨g4, _, _, _, _, rfl, hh.mono (by omega), by omega, by simp [hxl], ?_, rfl⟩
      intro y hy
      rcases List.mem_append.mp hy with hy | hy
      · exact hxs y hy
      · cases List.mem_singleton.mp hy
        exact ⟨by simp only [spotB]; rw [k1, ht.2 8 (by decide)]; rfl, pq2 (pq_of0 k2) ht.1⟩
    refine ite_b (fun q => ?_) (fun q => ?_)
    · walk_at "f"
      refine take_in hh (by decide) (by decide) (by omega) fun r5 g5 h0 h1 hh hl5 => ?_
      walk_at "f"
      refine ite_b (fun q => ?_) (fun q => ?_)
      · refine join (fun o h' => o = .nx [some (.ref p), some (.int many), some (.ref g.length), some (.int ez), some x, some .non, some (.tup [.str "any"])] ∧ h' = g5 ++ [.lst xs]) ?_ ?_
        · walk_at "f"
          exact ⟨rfl, rfl⟩
        · rintro o h' ⟨rfl, rfl⟩
          refine e_sqN ?_
          exact fin _ _ g5 rfl rfl .any (hh.mono (by omega)) (by omega)
      · refine e_next ?_
        refine e_sqN ?_
        exact fin _ _ g5 kd'.1 kd'.2 hte (hh.mono (by omega)) (by omega)
    · refine ite_f ?_
      refine e_next ?_
      refine e_sqN ?_
      exact fin _ _ g4 kd'.1 kd'.2 hte (hh.mono (by omega)) (by omega)
  · rintro ρ h' ⟨g', xs, v4, v5, v6, rfl, hh, hl', hxl, hxs, rfl⟩
    walk_at "f"
    refine p_tupR (at1 (by omega)) ?_
    walk_at "f"
    have : (xs.length : Int) = many := by simp at hxl; omega
    refine ⟨g', _, rfl, hl', hh.mono (by simp at hxl ⊢; omega), xs, rfl, hxs, this⟩
theorem odd_in {g t : HpM} {p k : Nat} {c : Int} {x : M} {R : M → HpM → Prop} (hh : In g p c) (m3 : c < 900000000) (hx : Pu k x)
    (q : ∀ d g', Pu (k + 2) d → In g' p (c + 1) → g'.length = g.length → R d (g' ++ t)) : Ens (m__law_odd [.ref p, x] (g ++ t)) R := by
  refine e_fun rfl ?_
  unfold b__law_odd
  walk_at "f"
  refine p_addL (by simp) ?_
  walk_at "f"
  refine take_in hh (by simp) (by simp) (by omega) fun r g' h0 h1 hh hl => ?_
  refine p_any h0 h1 fun y hy => ?_
  walk_at "f"
  refine q y g' ?_ hh hl
  simp only [List.cons_append, List.nil_append, List.mem_cons, List.not_mem_nil, or_false] at hy
  have P2 : ∀ {z : M}, pureB 2 z = true → Pu (k + 2) z := fun h => Pu.mono (k := 2) h (by omega)
  rcases hy with rfl | rfl | rfl | rfl | rfl | rfl | rfl | rfl | rfl | rfl | rfl | rfl | rfl | rfl | rfl | rfl | rfl | rfl
  case inr.inr.inr.inr.inr.inr.inr.inr.inr.inr.inr.inr.inl => exact (Pu.lst (k := k) (by simp) (by intro z hz; cases List.mem_singleton.mp hz; exact hx)).mono (by omega)
  all_goals exact P2 (by decide +kernel)
theorem cutTo {xs : List M} {r : Int} (h0 : 0 ≤ r) (h1 : r < xs.length) : cutM xs none (some r) = xs.take r.toNat := by
  obtain ⟨j, rfl⟩ := Int.eq_ofNat_of_zero_le h0
  exact cut_to (by omega)
theorem cutFr {xs : List M} {r : Int} (h0 : 0 ≤ r) (h1 : r < xs.length) : cutM xs (some (r + 1)) none = xs.drop (r.toNat + 1) := by
  obtain ⟨j, rfl⟩ := Int.eq_ofNat_of_zero_le h0
  have : ((j : Int) + 1) = ((j + 1 : Nat) : Int) := by omega
  rw [this]
  exact cut_from (by omega)
theorem p_tI {R : M → Prop} {h : HpM} {xs : List M} {r : Int} (h0 : 0 ≤ r) (h1 : r < xs.length) (q : R (xs.getD r.toNat .non)) : Enp (ixM (.tup xs) (.int r) h) R := ⟨_, atI_ok h0 h1, q⟩
theorem getD_mem {xs : List M} {r : Int} (h0 : 0 ≤ r) (h1 : r < xs.length) : xs.getD r.toNat .non ∈ xs := by
  rw [List.getD_eq_getElem?_getD, List.getElem?_eq_getElem (by omega)]
  exact List.getElem_mem _
theorem spoilt_in : ∀ {n k : Nat} {g t : HpM} {p : Nat} {c : Int} {x : M} {R : M → HpM → Prop}, In g p c → c + 4 * n < 900000000 → pq k x = true → k < n → n ≤ 100 →
    (∀ d g', Pu (k + 2) d → In g' p (c + 4 * n) → g'.length = g.length → R d (g' ++ t)) → Ens (m__law_spoilt n [.ref p, x] (g ++ t)) R
  | 0, k, g, t, p, c, x, R, _, _, _, h0, _, _ => by omega
  | n + 1, k, g, t, p, c, x, R, hh, hc, hx, hk, hn, q => by
    unfold m__law_spoilt
    refine e_fun rfl ?_
    unfold b__law_spoilt
    have hpx := pq_pu hx
    have oddc : ∀ (ρ : EnvM) (g' : HpM) (S : FS), ρ[0]? = some (some (.ref p)) → ρ[1]? = some (some x) → In g' p (c + 1) → g'.length = g.length → Ens (sRet (mCall m__law_odd (mCons (mVar 0) (mCons (mVar 1) mNil))) ρ (g' ++ t)) (SQ S (FQ R)) := by
      intro ρ g' S h0 h1 hh hl
      refine e_ret ?_
      refine e_call ?_
      refine e_cons ?_
      refine e_var h0 ?_
      refine e_cons ?_
      refine e_var h1 ?_
      walk_at "f"
      refine odd_in hh (by omega) hpx fun d g2 hd hh hl2 => ?_
      walk_at "f"
      exact q d g2 hd (hh.mono (by omega)) (by omega)
    cases x with
    | tup xs =>
      cases k with
      | zero => cases hx
      | succ k =>
        obtain ⟨hl5, hxs⟩ := pq_un hx
        cases xs with
        | nil =>
          walk_at "es"
          refine len_ok (by simp) ?_
          walk_at "es"
          refine p_eqNil0 ?_
          walk_at "e"
          walk_at "e"
          walk_at "e"
          exact oddc _ g _ rfl rfl (hh.mono (by omega)) rfl
        | cons w ps =>
          walk_at "es"
          refine len_ok (by simp) ?_
          walk_at "es"


          refine p_eqNil hpx (by omega) ?_
          walk_at "f"
          refine take_in hh (by decide) (by decide) (by omega) fun r1 g1 h10 h11 hh hl1 => ?_
          walk_at "f"
          refine ite_b (fun _ => ?_) (fun _ => ?_)
          · exact oddc _ g1 _ rfl rfl hh hl1
          clear oddc
          walk_at "f"
          have hpos : 0 < (w :: ps).length := by simp
          refine take_in hh (by omega) (by omega) (by omega) fun r2 g2 h20 h21 hh hl2 => ?_
          walk_at "f"
          refine take_in hh (by decide) (by decide) (by omega) fun r3 g3 h30 h31 hh hl3 => ?_
          generalize hys : w :: ps = ys at *
          have pys : ∀ y ∈ ys, Pu k y := fun y hy => pq_pu (hxs y hy)
          have h21' : r2 < (ys.length : Int) := h21
          have hmem := getD_mem h20 h21'
          walk_at "f"
          refine ite_b (fun _ => ?_) (fun _ => ?_)
          · walk_at "f"
            refine p_listT ?_
            walk_at "f"
            exact q _ g3 ((Pu.lst (by omega) pys).mono (by omega)) (hh.mono (by omega)) (by omega)
          walk_at "f"
          refine ite_b (fun _ => ?_) (fun _ => ?_)
          · walk_at "f"
            rw [cutTo h20 h21', cutFr h20 h21']
            refine p_addT (by simp; omega) ?_
            walk_at "f"
            refine q _ g3 ((Pu.tup (k := k) (by simp; omega) fun y hy => ?_).mono (by omega)) (hh.mono (by omega)) (by omega)
            rcases List.mem_append.mp hy with hy | hy
            · exact pys y (List.mem_of_mem_take hy)
            · exact pys y (List.mem_of_mem_drop hy)
          walk_at "f"
          refine ite_b (fun _ => ?_) (fun _ => ?_)
          · walk_at "f"
            refine p_tI h20 h21' ?_
            walk_at "f"
            refine p_addT (by simp; omega) ?_
            walk_at "f"
            refine q _ g3 ((Pu.tup (k := k) (by simp; omega) fun y hy => ?_).mono (by omega)) (hh.mono (by omega)) (by omega)
            rcases List.mem_append.mp hy with hy | hy
            · exact pys y hy
            · cases List.mem_singleton.mp hy; exact pys _ hmem
          walk_at "f"
          refine p_tI h20 h21' ?_
          walk_at "f"
          refine spoilt_in hh (by omega) (hxs _ hmem) (by omega) (by omega) fun d g4 hd hh hl4 => ?_
          walk_at "f"
          rw [cutTo h20 h21']
          refine p_addT (by simp; omega) ?_
          walk_at "f"
          rw [cutFr h20 h21']
          refine p_addT (by simp; omega) ?_
          walk_at "f"
          refine q _ g4 ((Pu.tup (k := k + 2) (by simp; omega) fun y hy => ?_).mono (by omega)) (hh.mono (by omega)) (by omega)
          rcases List.mem_append.mp hy with hy | hy
          · rcases List.mem_append.mp hy with hy | hy
            · exact (pys y (List.mem_of_mem_take hy)).mono (by omega)
            · cases List.mem_singleton.mp hy; exact hd
          · exact (pys y (List.mem_of_mem_drop hy)).mono (by omega)
    | lst _ => cases k <;> cases hx
    | dct _ _ => cases k <;> cases hx
    | ref _ => cases k <;> cases hx
    | scr _ => cases k <;> cases hx
    | ty _ => cases k <;> cases hx
    | _ =>
      walk_at "f"
      refine odd_in hh (by omega) hpx fun d g2 hd hh hl2 => ?_
      walk_at "f"
      exact q d g2 hd (hh.mono (by omega)) (by omega)
theorem res_lst {n : Nat} {g : HpM} {q : Nat} {is : List Int} {k : Nat} (hk : ¬ k < n) (e : g[k]? = some (.lst (is.map M.int))) : lookR n g (q + 1) k = some (.lst (is.map M.int)) := by
  show (if k < n then _ else _) = _
  rw [if_neg hk]
  simp only [e]
  rw [res_ints]; rfl
theorem e_shutL {f : FF} {ds : List M} {g : HpM} {R : M → HpM → Prop} (q : Ens (f ds g) fun d h1 => ∃ (g' : HpM) (is : List Int), h1 = g' ++ [.lst (is.map M.int)] ∧ g'.length = g.length ∧ Hp3 g' ∧ d = .ref g.length ∧ R (.lst (is.map M.int)) g') : Ens (mSeal f ds g) R :=
  .bnd (q.mono fun d h1 q => by
    obtain ⟨g', is, rfl, hl, h3, rfl, r⟩ := q
    refine ⟨.lst (is.map M.int), g', ?_, r⟩
    unfold shut
    rw [if_neg (by simp; omega)]
    show (lookR g.length (g' ++ [.lst (is.map M.int)]) 20 g.length).bind _ = _
    rw [res_lst (q := 19) (by omega) (at1 (by omega)), Option.bind_some, ← hl, List.take_left, hp3_res h3]; rfl)
theorem e_listHL {mas : FA} {ρ : EnvM} {h : HpM} {R : M → HpM → Prop} (q : Ens (mas ρ h) fun xs h1 => ∃ ys, xs = [.lst ys] ∧ R (.ref h1.length) (h1 ++ [.lst ys])) : Ens (mListH mas ρ h) R := .bnd (q.mono fun xs h1 q => by obtain ⟨ys, rfl, q⟩ := q; exact .ret q)
theorem set_ints {is : List Int} {j : Nat} {v : Int} : (is.map M.int).set j (.int v) = (is.set j v).map M.int := by rw [List.map_set]
theorem folded_in {ns : List Int} {g : HpM} {R : M → HpM → Prop} (hl : ns.length ≤ 63) (h3 : Hp3 g) (q : ∀ is : List Int, is.length ≤ 12 → R (.lst (is.map M.int)) g) : Ens (m__law_folded [.scr ns, .int 12] g) R := by
  refine e_shutL ?_
  have lift : ∀ {d : M} {h1 : HpM}, (∃ is : List Int, h1 = g ++ [.lst (is.map M.int)] ∧ d = .ref g.length ∧ is.length ≤ 12) → ∃ (g' : HpM) (is : List Int), h1 = g' ++ [.lst (is.map M.int)] ∧ g'.length = g.length ∧ Hp3 g' ∧ d = .ref g.length ∧ R (.lst (is.map M.int)) g' := by
    rintro d h1 ⟨is, rfl, rfl, hi⟩
    exact ⟨g, is, rfl, rfl, h3, rfl, q is hi⟩
  refine Ens.mono ?_ fun d h1 q => lift q
  clear lift q
  refine e_fun rfl ?_
  unfold b__law_folded
  walk_at "es"
  refine e_listHL ?_
  walk_at "f"
  have e12 : cutM (ns.map M.int) none (some 12) = (ns.take 12).map M.int := by
    unfold cutM
    rw [HT.sIx_none, show (some (12 : Int)) = some ((12 : Nat) : Int) from rfl, HT.sIx_nat]
    simp [List.map_take, Nat.min_comm]
  rw [e12]
  refine e_iEnum ?_
  walk_at "f"
  have e63 : cutM (ns.map M.int) (some 12) (some 63) = (ns.drop 12).map M.int := by
    unfold cutM
    rw [show (some (12 : Int)) = some ((12 : Nat) : Int) from rfl, HT.sIx_nat, show (some (63 : Int)) = some ((63 : Nat) : Int) from rfl, HT.sIx_nat]
    simp only [List.length_map]
    rw [Nat.min_eq_right (show ns.length ≤ 63 from hl)]
    by_cases h : 12 ≤ ns.length
    · rw [Nat.min_eq_left h, List.take_of_length_le (by simp), List.map_drop]
    · rw [Nat.min_eq_right (by omega), List.drop_eq_nil_of_le (by simp), List.drop_eq_nil_of_le (by omega)]; simp
  rw [e63]
  refine ⟨_, _, rfl, rfl, ?_⟩
  refine e_over (fun i ρ h' => ∃ (is : List Int) (v3 v4 : Option M), h' = g ++ [.lst (is.map M.int)] ∧ is.length = min 12 ns.length ∧ ρ = [some (.scr ns), some (.int 12), some (.ref g.length), v3, v4]) ⟨ns.take 12, none, none, rfl, by simp, rfl⟩ ?_ ?_
  · rintro i x ρ h' hx ⟨is, v3, v4, rfl, hil, rfl⟩
    rw [numd_get] at hx
    cases q : ((ns.drop 12).map M.int)[i]? with
    | none => rw [q] at hx; cases hx
    | some y =>
      rw [q] at hx
      cases hx
      have hi := (List.getElem?_eq_some_iff.mp q).1
      rw [List.length_map, List.length_drop] at hi
      rw [List.getElem?_map] at q
      obtain ⟨v, hv, rfl⟩ := Option.map_eq_some_iff.mp q
      have h12 : is.length = 12 := by omega
      have m0 := Int.emod_nonneg (i : Int) (b := 12) (by decide)
      have m1 := Int.emod_lt_of_pos (i : Int) (b := 12) (by decide)
      have hat : atI (is.map M.int) ((i : Int) % 12) = some (.int (is.getD ((i : Int) % 12).toNat 0)) := by
        unfold atI
        rw [ixN_ok m0 (by simp; omega), Option.bind_some, List.getElem?_map, List.getD_eq_getElem?_getD, List.getElem?_eq_getElem (by omega)]; rfl
      walk_at "f"
      refine p_ixR (at1 rfl) hat ?_
      walk_at "f"
      refine e_putL (k := g.length) (j := (i : Int) % 12) rfl rfl rfl m0 (by simp; omega) ?_
      walk_at "f"
      rw [set_ints]
      exact ⟨_, _, _, rfl, by simp [hil], rfl⟩
  · rintro ρ h' ⟨is, v3, v4, rfl, hil, rfl⟩
    walk_at "f"
    exact ⟨rfl, by omega⟩
theorem box_fact {h : HpM} {v : Int} {b : Bool} {i : Nat} (h3 : Hp3 h) (hi : i ≤ 20) : In (h ++ [.lst [.int ((if v < 0 then -v else v) * if b = true then 1 else 0), .int (v % 2305843009213693951), .int (7 * (i : Int))]]) h.length 140 := by
  refine ⟨⟨_, _, _, at1 rfl, ?_, Int.emod_nonneg _ (by decide), ?_, by omega, by omega⟩, ?_⟩
  · apply Int.mul_nonneg
    · split <;> omega
    · split <;> omega
  · have := Int.emod_lt_of_pos v (b := 2305843009213693951) (by decide)
    omega
  · intro o ho
    rcases List.mem_append.mp ho with ho | ho
    · exact h3 o ho
    · rw [List.mem_singleton.mp ho]; exact ⟨[_, _, _], rfl⟩
theorem box_in {ns : List Int} {i : Nat} {h : HpM} {R : M → HpM → Prop} (h3 : Hp3 h) (hi : i ≤ 20) (k : ∀ g, In g h.length 140 → R (.ref h.length) g) : Ens (m__law_box [.lst (ns.map M.int), .int (i : Int)] h) R := by
  refine e_fun rfl ?_
  unfold b__law_box
  walk_at "es"
  refine ite_b (fun q => ?_) (fun q => ?_)
  · have hi' : i < ns.length := by have := of_decide_eq_true q; simp at this; omega
    walk_at "es"
    refine p_l (j := i) (x := .int ns[i]) (by rw [List.getElem?_map, List.getElem?_eq_getElem hi']; rfl) ?_
    generalize ns[i] = v
    walk_at "es"
    exact ⟨by simp, k _ (box_fact h3 hi)⟩
  · walk_at "es"
    exact ⟨by simp, k _ (box_fact h3 hi)⟩
theorem law_true (ns : List Int) (hl : ns.length ≤ 63) : ∃ h', m_law [.scr ns] [] = some (.bl true, h') := by
  suffices z : Ens (m_law [.scr ns] []) fun d _ => d = .bl true by
    obtain ⟨d, h', e, rfl⟩ := z
    exact ⟨h', e⟩
  refine e_fun rfl ?_
  unfold b_law
  walk_at "es"
  refine folded_in hl (by intro o ho; cases ho) fun is his => ?_
  walk_at "es"
  refine e_iR1 ?_
  walk_at "es"
  refine ⟨_, rfl, ⟨by simp only [List.length_map]; split <;> omega, by simp only [List.length_map]; split <;> omega⟩, ?_⟩
  refine e_over (fun i ρ h' => ∃ v2 v3 v4 v5 v6, ρ = [some (.scr ns), some (.lst (is.map M.int)), v2, v3, v4, v5, v6] ∧ Hp3 h') ⟨_, _, _, _, _, rfl, by intro o ho; cases ho⟩ ?_ ?_
  · rintro i x ρ h hx ⟨v2, v3, v4, v5, v6, rfl, h3⟩
    have hi : i ≤ 20 := by
      have := (List.getElem?_eq_some_iff.mp hx).1
      simp at this
      split at this <;> omega
    obtain ⟨j, hj, rfl⟩ : ∃ j : Nat, j = i ∧ x = .int (j : Int) := by
      rw [List.getElem?_map] at hx
      obtain ⟨j, hj, rfl⟩ := Option.map_eq_some_iff.mp hx
      obtain ⟨h1, h2⟩ := List.getElem?_eq_some_iff.mp hj
      rw [List.getElem_range] at h2
      exact ⟨j, h2.symm, rfl⟩
    subst hj
    walk_at "es"
    refine box_in h3 hi fun g hh => ?_
    walk_at "f"
    rw [← List.append_nil g]
    refine take_in hh (by decide) (by decide) (by omega) fun r1 g1 h10 h11 hh hl1 => ?_
    walk_at "f"
    refine p_any (by split <;> decide) (by split <;> decide) fun mm hmm => ?_
    obtain ⟨m, rfl, hm0, hm1⟩ := inR_int (mem_all (P := inR 8) (xs := [M.int 3, .int 7]) (by decide +kernel) hmm)
    have hmpos : 0 < m := by
      simp only [List.mem_cons, List.not_mem_nil, or_false] at hmm
      rcases hmm with e | e <;> (injection e with e; omega)
    clear hmm
    walk_at "f"
    refine take_in hh hmpos (by omega) (by omega) fun r2 g2 h20 h21 hh hl2 => ?_
    walk_at "f"
    rw [List.append_nil]
    refine spots_in hh (by omega) (by omega) (by omega) fun ss g3 hss hsl hh hl3 => ?_
    walk_at "f"
    refine bows_in hh (by omega) (by omega) (by omega) fun bs g4 hbs hbl hh hl4 => ?_
    walk_at "f"
    refine pairs_in hh (by omega) (by omega) (by omega) fun ps g5 hps hpl hh hl5 => ?_
    walk_at "f"
    have hp : pq 6 (.tup [.tup ss, .tup bs, .tup ps]) = true := pq3 (pq_tup (k := 4) (by omega) fun y hy => pq_mono (hss y hy).2 (by decide)) (pq_tup (by omega) fun y hy => (hbs y hy).2) (pq_tup (by omega) fun y hy => (hps y hy).2)
    have hB : patB (.tup [.tup ss, .tup bs, .tup ps]) = true := by
      have a1 : ((ss.length : Int) == 0) = false := beq_eq_false_iff_ne.mpr (by omega)
      have a2 : ss.all spotB = true := List.all_eq_true.mpr fun y hy => (hss y hy).1
      have a3 : bs.all (bowB ss.length) = true := List.all_eq_true.mpr fun y hy => by rw [hsl]; exact (hbs y hy).1
      have a4 : ps.all (pairB ss.length) = true := List.all_eq_true.mpr fun y hy => by rw [hsl]; exact (hps y hy).1
      simp only [patB]; rw [a1, a2, a3, a4]; rfl
    generalize M.tup [.tup ss, .tup bs, .tup ps] = th at hp hB ⊢
    refine ens_eq (pat_run (pq_pu hp) (by decide)) ?_
    rw [hB]
    walk_at "f"
    rw [← List.append_nil g5]
    refine take_in hh (by decide) (by decide) (by omega) fun r6 g6 h60 h61 hh hl6 => ?_
    have fin : ∀ (th : M) (g6 : HpM), Pu 8 th → Hp3 g6 → Ens (sSeq (sAsg (mCall m_is_pattern (mCons (mVar 5) mNil)) (gNm 6)) (sIf (tOrM (tNotM (tV (mCB bInst (mCons (mVar 6) (mCons (mC (.ty "bool")) mNil))))) (tV (mOp opNe (mVar 6) (mCall m__law_due (mCons (mVar 5) mNil))))) (sRet (mC (.bl false))) sNext) [some (.scr ns), some (.lst (is.map M.int)), some (.int (j : Int)), some (.ref h.length), some (.int (1 + r2)), some th, v6] g6) (LQ (fun ρ h' => ∃ v2 v3 v4 v5 v6, ρ = [some (.scr ns), some (.lst (is.map M.int)), v2, v3, v4, v5, v6] ∧ Hp3 h') (SQ (sRet (mAnd (mOp opIs (mCall m_is_pattern (mCons (mTup (mCons (mTup mNil) (mCons (mTup mNil) (mCons (mTup mNil) mNil)))) mNil)) (mC (.bl false))) (mOp opIs (mCall m_is_pattern (mCons (mC (.str "")) mNil)) (mC (.bl false))))) (FQ fun d x => d = M.bl true))) := by
      intro th g6 hp h3
      walk_at "f"
      refine ens_eq (pat_run hp (by decide)) ?_
      walk_at "f"
      refine ens_eq (due_run hp (by decide)) ?_
      walk_at "f"
      refine ite_F (by simp) ?_
      walk_at "f"
      exact ⟨_, _, _, _, _, rfl, h3⟩
    walk_at "f"
    refine ite_b (fun q => ?_) (fun q => ?_)
    · refine join (fun o h' => ∃ d, Pu 8 d ∧ Hp3 h' ∧ o = .nx [some (.scr ns), some (.lst (is.map M.int)), some (.int (j : Int)), some (.ref h.length), some (.int (1 + r2)), some d, v6]) ?_ ?_
      · walk_at "f"
        refine spoilt_in hh (by omega) hp (by decide) (by decide) fun d g7 hd hh hl7 => ?_
        walk_at "f"
        exact ⟨d, hd, by rw [List.append_nil]; exact hh.2, rfl⟩
      · rintro o h' ⟨d, hd, h3, rfl⟩
        exact fin d h' hd h3
    · refine e_next ?_
      exact fin th _ ((pq_pu hp).mono (by decide)) (by rw [List.append_nil]; exact hh.2)
  · rintro ρ h ⟨v2, v3, v4, v5, v6, rfl, h3⟩
    walk_at "f"
    refine ens_eq (pat_run (k := 2) (pu3 (Pu.tup (by simp) (by simp)) (Pu.tup (by simp) (by simp)) (Pu.tup (by simp) (by simp))) (by decide)) ?_
    walk_at "f"
    refine ite_T rfl ?_
    walk_at "f"
    refine ens_eq (pat_run (k := 0) (Pu.str (by decide +kernel)) (by decide)) ?_
    walk_at "f"
    rfl
end K39
set_option Elab.async false
set_option linter.all false
set_option maxRecDepth 100000
set_option maxHeartbeats 8000000
namespace K39
open PySem L2
section
variable {P : Program} {w : World} {K : PySem.W.Frag} {mg : Str → Option Value} {base : Heap} {t : Adr}
theorem ok_law0 (T : Txt K mg t) : FnOk P w K mg base CX0 15 t.f_law t.d_law ["_law_script"] (spLaw K) := (ok_law T).imp fun vs H Q E q => spLaw_spM law_true q
end
theorem txt_mk {K : PySem.W.Frag} {h : Heap} {mg : Str → Option Value} {f0 f1 f2 f3 f4 f5 f6 f7 f8 f9 f10 f11 f12 f13 f14 f15 f16 f17 f18 f19 f20 f21 f22 f23 f24 f25 f26 f27 f28 f29 f30 : Addr} (X : K.In h) (G : h.Ns mainGlobals mg)
   {od0 an0 od1 an1 od2 an2 od3 an3 od4 an4 od5 an5 od6 an6 od7 an7 od8 an8 od9 an9 od10 an10 od11 an11 od12 an12 od13 an13 od14 an14 od15 an15 od16 an16 od17 an17 od18 an18 od19 an19 od20 an20 od21 an21 od22 an22 od23 an23 od24 an24 od25 an25 od26 an26 od27 an27 od28 an28 od29 an29 od30 an30 : Option Addr} {sl0 sl1 sl2 sl3 sl4 sl5 sl6 sl7 sl8 sl9 sl10 sl11 sl12 sl13 sl14 sl15 sl16 sl17 sl18 sl19 sl20 sl21 sl22 sl23 sl24 sl25 sl26 sl27 sl28 sl29 sl30 : Array (Option Value)} {oc0 kV0 dc0 pm0 cd0 ct0 oc1 kV1 dc1 pm1 cd1 ct1 oc2 kV2 dc2 pm2 cd2 ct2 oc3 kV3 dc3 pm3 cd3 ct3 oc4 kV4 dc4 pm4 cd4 ct4 oc5 kV5 dc5 pm5 cd5 ct5 oc6 kV6 dc6 pm6 cd6 ct6 oc7 kV7 dc7 pm7 cd7 ct7 oc8 kV8 dc8 pm8 cd8 ct8 oc9 kV9 dc9 pm9 cd9 ct9 oc10 kV10 dc10 pm10 cd10 ct10 oc11 kV11 dc11 pm11 cd11 ct11 oc12 kV12 dc12 pm12 cd12 ct12 oc13 kV13 dc13 pm13 cd13 ct13 oc14 kV14 dc14 pm14 cd14 ct14 oc15 kV15 dc15 pm15 cd15 ct15 oc16 kV16 dc16 pm16 cd16 ct16 oc17 kV17 dc17 pm17 cd17 ct17 oc18 kV18 dc18 pm18 cd18 ct18 oc19 kV19 dc19 pm19 cd19 ct19 oc20 kV20 dc20 pm20 cd20 ct20 oc21 kV21 dc21 pm21 cd21 ct21 oc22 kV22 dc22 pm22 cd22 ct22 oc23 kV23 dc23 pm23 cd23 ct23 oc24 kV24 dc24 pm24 cd24 ct24 oc25 kV25 dc25 pm25 cd25 ct25 oc26 kV26 dc26 pm26 cd26 ct26 oc27 kV27 dc27 pm27 cd27 ct27 oc28 kV28 dc28 pm28 cd28 ct28 oc29 kV29 dc29 pm29 cd29 ct29 oc30 kV30 dc30 pm30 cd30 ct30 : Value}
   (a0 : PySem.W.nsIn K mainGlobals "is_name" = some (some (.ref f0))) (l0 : K.lookup f0 = some ⟨oc0, od0, .func (PySem.W.fnOf "is_name" "is_name" (defArgs s_is_name) (defBody s_is_name) (defScope s_is_name) .none kV0 dc0 pm0 an0 cd0 ct0), sl0⟩) (c0 : PySem.W.codeIn K cd0 "is_name" = true) (k0 : PySem.W.keepIn K (.ref f0) = true)
   (a1 : PySem.W.nsIn K mainGlobals "is_number" = some (some (.ref f1))) (l1 : K.lookup f1 = some ⟨oc1, od1, .func (PySem.W.fnOf "is_number" "is_number" (defArgs s_is_number) (defBody s_is_number) (defScope s_is_number) .none kV1 dc1 pm1 an1 cd1 ct1), sl1⟩) (c1 : PySem.W.codeIn K cd1 "is_number" = true) (k1 : PySem.W.keepIn K (.ref f1) = true)
   (a2 : PySem.W.nsIn K mainGlobals "is_value" = some (some (.ref f2))) (l2 : K.lookup f2 = some ⟨oc2, od2, .func (PySem.W.fnOf "is_value" "is_value" (defArgs s_is_value) (defBody s_is_value) (defScope s_is_value) .none kV2 dc2 pm2 an2 cd2 ct2), sl2⟩) (c2 : PySem.W.codeIn K cd2 "is_value" = true) (k2 : PySem.W.keepIn K (.ref f2) = true)
   (a3 : PySem.W.nsIn K mainGlobals "is_test" = some (some (.ref f3))) (l3 : K.lookup f3 = some ⟨oc3, od3, .func (PySem.W.fnOf "is_test" "is_test" (defArgs s_is_test) (defBody s_is_test) (defScope s_is_test) .none kV3 dc3 pm3 an3 cd3 ct3), sl3⟩) (c3 : PySem.W.codeIn K cd3 "is_test" = true) (k3 : PySem.W.keepIn K (.ref f3) = true)
   (a4 : PySem.W.nsIn K mainGlobals "is_way" = some (some (.ref f4))) (l4 : K.lookup f4 = some ⟨oc4, od4, .func (PySem.W.fnOf "is_way" "is_way" (defArgs s_is_way) (defBody s_is_way) (defScope s_is_way) .none kV4 dc4 pm4 an4 cd4 ct4), sl4⟩) (c4 : PySem.W.codeIn K cd4 "is_way" = true) (k4 : PySem.W.keepIn K (.ref f4) = true)
   (a5 : PySem.W.nsIn K mainGlobals "are_times" = some (some (.ref f5))) (l5 : K.lookup f5 = some ⟨oc5, od5, .func (PySem.W.fnOf "are_times" "are_times" (defArgs s_are_times) (defBody s_are_times) (defScope s_are_times) .none kV5 dc5 pm5 an5 cd5 ct5), sl5⟩) (c5 : PySem.W.codeIn K cd5 "are_times" = true) (k5 : PySem.W.keepIn K (.ref f5) = true)
   (a6 : PySem.W.nsIn K mainGlobals "is_pattern" = some (some (.ref f6))) (l6 : K.lookup f6 = some ⟨oc6, od6, .func (PySem.W.fnOf "is_pattern" "is_pattern" (defArgs s_is_pattern) (defBody s_is_pattern) (defScope s_is_pattern) .none kV6 dc6 pm6 an6 cd6 ct6), sl6⟩) (c6 : PySem.W.codeIn K cd6 "is_pattern" = true) (k6 : PySem.W.keepIn K (.ref f6) = true)
   (a7 : PySem.W.nsIn K mainGlobals "is_spot" = some (some (.ref f7))) (l7 : K.lookup f7 = some ⟨oc7, od7, .func (PySem.W.fnOf "is_spot" "is_spot" (defArgs s_is_spot) (defBody s_is_spot) (defScope s_is_spot) .none kV7 dc7 pm7 an7 cd7 ct7), sl7⟩) (c7 : PySem.W.codeIn K cd7 "is_spot" = true) (k7 : PySem.W.keepIn K (.ref f7) = true)
   (a8 : PySem.W.nsIn K mainGlobals "is_bow" = some (some (.ref f8))) (l8 : K.lookup f8 = some ⟨oc8, od8, .func (PySem.W.fnOf "is_bow" "is_bow" (defArgs s_is_bow) (defBody s_is_bow) (defScope s_is_bow) .none kV8 dc8 pm8 an8 cd8 ct8), sl8⟩) (c8 : PySem.W.codeIn K cd8 "is_bow" = true) (k8 : PySem.W.keepIn K (.ref f8) = true)
   (a9 : PySem.W.nsIn K mainGlobals "is_pair" = some (some (.ref f9))) (l9 : K.lookup f9 = some ⟨oc9, od9, .func (PySem.W.fnOf "is_pair" "is_pair" (defArgs s_is_pair) (defBody s_is_pair) (defScope s_is_pair) .none kV9 dc9 pm9 an9 cd9 ct9), sl9⟩) (c9 : PySem.W.codeIn K cd9 "is_pair" = true) (k9 : PySem.W.keepIn K (.ref f9) = true)
   (a10 : PySem.W.nsIn K mainGlobals "is_spot_number" = some (some (.ref f10))) (l10 : K.lookup f10 = some ⟨oc10, od10, .func (PySem.W.fnOf "is_spot_number" "is_spot_number" (defArgs s_is_spot_number) (defBody s_is_spot_number) (defScope s_is_spot_number) .none kV10 dc10 pm10 an10 cd10 ct10), sl10⟩) (c10 : PySem.W.codeIn K cd10 "is_spot_number" = true) (k10 : PySem.W.keepIn K (.ref f10) = true)
   (a11 : PySem.W.nsIn K mainGlobals "_law_box" = some (some (.ref f11))) (l11 : K.lookup f11 = some ⟨oc11, od11, .func (PySem.W.fnOf "_law_box" "_law_box" (defArgs s__law_box) (defBody s__law_box) (defScope s__law_box) .none kV11 dc11 pm11 an11 cd11 ct11), sl11⟩) (c11 : PySem.W.codeIn K cd11 "_law_box" = true) (k11 : PySem.W.keepIn K (.ref f11) = true)
   (a12 : PySem.W.nsIn K mainGlobals "_law_take" = some (some (.ref f12))) (l12 : K.lookup f12 = some ⟨oc12, od12, .func (PySem.W.fnOf "_law_take" "_law_take" (defArgs s__law_take) (defBody s__law_take) (defScope s__law_take) .none kV12 dc12 pm12 an12 cd12 ct12), sl12⟩) (c12 : PySem.W.codeIn K cd12 "_law_take" = true) (k12 : PySem.W.keepIn K (.ref f12) = true)
   (a13 : PySem.W.nsIn K mainGlobals "_law_value" = some (some (.ref f13))) (l13 : K.lookup f13 = some ⟨oc13, od13, .func (PySem.W.fnOf "_law_value" "_law_value" (defArgs s__law_value) (defBody s__law_value) (defScope s__law_value) .none kV13 dc13 pm13 an13 cd13 ct13), sl13⟩) (c13 : PySem.W.codeIn K cd13 "_law_value" = true) (k13 : PySem.W.keepIn K (.ref f13) = true)
   (a14 : PySem.W.nsIn K mainGlobals "_law_test" = some (some (.ref f14))) (l14 : K.lookup f14 = some ⟨oc14, od14, .func (PySem.W.fnOf "_law_test" "_law_test" (defArgs s__law_test) (defBody s__law_test) (defScope s__law_test) .none kV14 dc14 pm14 an14 cd14 ct14), sl14⟩) (c14 : PySem.W.codeIn K cd14 "_law_test" = true) (k14 : PySem.W.keepIn K (.ref f14) = true)
   (a15 : PySem.W.nsIn K mainGlobals "_law_way" = some (some (.ref f15))) (l15 : K.lookup f15 = some ⟨oc15, od15, .func (PySem.W.fnOf "_law_way" "_law_way" (defArgs s__law_way) (defBody s__law_way) (defScope s__law_way) .none kV15 dc15 pm15 an15 cd15 ct15), sl15⟩) (c15 : PySem.W.codeIn K cd15 "_law_way" = true) (k15 : PySem.W.keepIn K (.ref f15) = true)
   (a16 : PySem.W.nsIn K mainGlobals "_law_bows" = some (some (.ref f16))) (l16 : K.lookup f16 = some ⟨oc16, od16, .func (PySem.W.fnOf "_law_bows" "_law_bows" (defArgs s__law_bows) (defBody s__law_bows) (defScope s__law_bows) .none kV16 dc16 pm16 an16 cd16 ct16), sl16⟩) (c16 : PySem.W.codeIn K cd16 "_law_bows" = true) (k16 : PySem.W.keepIn K (.ref f16) = true)
   (a17 : PySem.W.nsIn K mainGlobals "_law_pairs" = some (some (.ref f17))) (l17 : K.lookup f17 = some ⟨oc17, od17, .func (PySem.W.fnOf "_law_pairs" "_law_pairs" (defArgs s__law_pairs) (defBody s__law_pairs) (defScope s__law_pairs) .none kV17 dc17 pm17 an17 cd17 ct17), sl17⟩) (c17 : PySem.W.codeIn K cd17 "_law_pairs" = true) (k17 : PySem.W.keepIn K (.ref f17) = true)
   (a18 : PySem.W.nsIn K mainGlobals "_law_spots" = some (some (.ref f18))) (l18 : K.lookup f18 = some ⟨oc18, od18, .func (PySem.W.fnOf "_law_spots" "_law_spots" (defArgs s__law_spots) (defBody s__law_spots) (defScope s__law_spots) .none kV18 dc18 pm18 an18 cd18 ct18), sl18⟩) (c18 : PySem.W.codeIn K cd18 "_law_spots" = true) (k18 : PySem.W.keepIn K (.ref f18) = true)
   (a19 : PySem.W.nsIn K mainGlobals "_law_number" = some (some (.ref f19))) (l19 : K.lookup f19 = some ⟨oc19, od19, .func (PySem.W.fnOf "_law_number" "_law_number" (defArgs s__law_number) (defBody s__law_number) (defScope s__law_number) .none kV19 dc19 pm19 an19 cd19 ct19), sl19⟩) (c19 : PySem.W.codeIn K cd19 "_law_number" = true) (k19 : PySem.W.keepIn K (.ref f19) = true)
   (a20 : PySem.W.nsIn K mainGlobals "_law_name" = some (some (.ref f20))) (l20 : K.lookup f20 = some ⟨oc20, od20, .func (PySem.W.fnOf "_law_name" "_law_name" (defArgs s__law_name) (defBody s__law_name) (defScope s__law_name) .none kV20 dc20 pm20 an20 cd20 ct20), sl20⟩) (c20 : PySem.W.codeIn K cd20 "_law_name" = true) (k20 : PySem.W.keepIn K (.ref f20) = true)
   (a21 : PySem.W.nsIn K mainGlobals "_law_worded" = some (some (.ref f21))) (l21 : K.lookup f21 = some ⟨oc21, od21, .func (PySem.W.fnOf "_law_worded" "_law_worded" (defArgs s__law_worded) (defBody s__law_worded) (defScope s__law_worded) .none kV21 dc21 pm21 an21 cd21 ct21), sl21⟩) (c21 : PySem.W.codeIn K cd21 "_law_worded" = true) (k21 : PySem.W.keepIn K (.ref f21) = true)
   (a22 : PySem.W.nsIn K mainGlobals "_law_right_test" = some (some (.ref f22))) (l22 : K.lookup f22 = some ⟨oc22, od22, .func (PySem.W.fnOf "_law_right_test" "_law_right_test" (defArgs s__law_right_test) (defBody s__law_right_test) (defScope s__law_right_test) .none kV22 dc22 pm22 an22 cd22 ct22), sl22⟩) (c22 : PySem.W.codeIn K cd22 "_law_right_test" = true) (k22 : PySem.W.keepIn K (.ref f22) = true)
   (a23 : PySem.W.nsIn K mainGlobals "_law_right_way" = some (some (.ref f23))) (l23 : K.lookup f23 = some ⟨oc23, od23, .func (PySem.W.fnOf "_law_right_way" "_law_right_way" (defArgs s__law_right_way) (defBody s__law_right_way) (defScope s__law_right_way) .none kV23 dc23 pm23 an23 cd23 ct23), sl23⟩) (c23 : PySem.W.codeIn K cd23 "_law_right_way" = true) (k23 : PySem.W.keepIn K (.ref f23) = true)
   (a24 : PySem.W.nsIn K mainGlobals "_law_right_bow" = some (some (.ref f24))) (l24 : K.lookup f24 = some ⟨oc24, od24, .func (PySem.W.fnOf "_law_right_bow" "_law_right_bow" (defArgs s__law_right_bow) (defBody s__law_right_bow) (defScope s__law_right_bow) .none kV24 dc24 pm24 an24 cd24 ct24), sl24⟩) (c24 : PySem.W.codeIn K cd24 "_law_right_bow" = true) (k24 : PySem.W.keepIn K (.ref f24) = true)
   (a25 : PySem.W.nsIn K mainGlobals "_law_right_pair" = some (some (.ref f25))) (l25 : K.lookup f25 = some ⟨oc25, od25, .func (PySem.W.fnOf "_law_right_pair" "_law_right_pair" (defArgs s__law_right_pair) (defBody s__law_right_pair) (defScope s__law_right_pair) .none kV25 dc25 pm25 an25 cd25 ct25), sl25⟩) (c25 : PySem.W.codeIn K cd25 "_law_right_pair" = true) (k25 : PySem.W.keepIn K (.ref f25) = true)
   (a26 : PySem.W.nsIn K mainGlobals "_law_due" = some (some (.ref f26))) (l26 : K.lookup f26 = some ⟨oc26, od26, .func (PySem.W.fnOf "_law_due" "_law_due" (defArgs s__law_due) (defBody s__law_due) (defScope s__law_due) .none kV26 dc26 pm26 an26 cd26 ct26), sl26⟩) (c26 : PySem.W.codeIn K cd26 "_law_due" = true) (k26 : PySem.W.keepIn K (.ref f26) = true)
   (a27 : PySem.W.nsIn K mainGlobals "_law_odd" = some (some (.ref f27))) (l27 : K.lookup f27 = some ⟨oc27, od27, .func (PySem.W.fnOf "_law_odd" "_law_odd" (defArgs s__law_odd) (defBody s__law_odd) (defScope s__law_odd) .none kV27 dc27 pm27 an27 cd27 ct27), sl27⟩) (c27 : PySem.W.codeIn K cd27 "_law_odd" = true) (k27 : PySem.W.keepIn K (.ref f27) = true)
   (a28 : PySem.W.nsIn K mainGlobals "_law_spoilt" = some (some (.ref f28))) (l28 : K.lookup f28 = some ⟨oc28, od28, .func (PySem.W.fnOf "_law_spoilt" "_law_spoilt" (defArgs s__law_spoilt) (defBody s__law_spoilt) (defScope s__law_spoilt) .none kV28 dc28 pm28 an28 cd28 ct28), sl28⟩) (c28 : PySem.W.codeIn K cd28 "_law_spoilt" = true) (k28 : PySem.W.keepIn K (.ref f28) = true)
   (a29 : PySem.W.nsIn K mainGlobals "_law_folded" = some (some (.ref f29))) (l29 : K.lookup f29 = some ⟨oc29, od29, .func (PySem.W.fnOf "_law_folded" "_law_folded" (defArgs s__law_folded) (defBody s__law_folded) (defScope s__law_folded) .none kV29 dc29 pm29 an29 cd29 ct29), sl29⟩) (c29 : PySem.W.codeIn K cd29 "_law_folded" = true) (k29 : PySem.W.keepIn K (.ref f29) = true)
   (a30 : PySem.W.nsIn K mainGlobals "law" = some (some (.ref f30))) (l30 : K.lookup f30 = some ⟨oc30, od30, .func (PySem.W.fnOf "law" "law" (defArgs s_law) (defBody s_law) (defScope s_law) .none kV30 dc30 pm30 an30 cd30 ct30), sl30⟩) (c30 : PySem.W.codeIn K cd30 "law" = true) (k30 : PySem.W.keepIn K (.ref f30) = true)
   (z_abs : PySem.W.nsIn K mainGlobals "abs" = some none)
   (z_all : PySem.W.nsIn K mainGlobals "all" = some none)
   (z_bool : PySem.W.nsIn K mainGlobals "bool" = some none)
   (z_enumerate : PySem.W.nsIn K mainGlobals "enumerate" = some none)
   (z_int : PySem.W.nsIn K mainGlobals "int" = some none)
   (z_isinstance : PySem.W.nsIn K mainGlobals "isinstance" = some none)
   (z_len : PySem.W.nsIn K mainGlobals "len" = some none)
   (z_list : PySem.W.nsIn K mainGlobals "list" = some none)
   (z_max : PySem.W.nsIn K mainGlobals "max" = some none)
   (z_range : PySem.W.nsIn K mainGlobals "range" = some none)
   (z_str : PySem.W.nsIn K mainGlobals "str" = some none)
   (z_tuple : PySem.W.nsIn K mainGlobals "tuple" = some none)
   {tk_LONGEST_NAME_1 : Tok} (c_LONGEST_NAME : PySem.W.nsIn K mainGlobals "LONGEST_NAME" = some (some (.int 8 tk_LONGEST_NAME_1)))
   {tk_MOST_TIMES_1 : Tok} (c_MOST_TIMES : PySem.W.nsIn K mainGlobals "MOST_TIMES" = some (some (.int 6 tk_MOST_TIMES_1)))
   {tk_BOW_SORTS_2 tk_BOW_SORTS_3 tk_BOW_SORTS_4 tk_BOW_SORTS_5 : Tok} {ad_BOW_SORTS_1 : Addr} {dd_BOW_SORTS_1 : Option Addr} {nn_BOW_SORTS_1 : Nat} {sl_BOW_SORTS_1 : Array (Option Value)} (c_BOW_SORTS : PySem.W.nsIn K mainGlobals "BOW_SORTS" = some (some (.ref ad_BOW_SORTS_1)))
   (l_BOW_SORTS_1 : K.lookup ad_BOW_SORTS_1 = some { cls := .type "tuple", dict := dd_BOW_SORTS_1, data := .seq [(.str "all" tk_BOW_SORTS_2), (.str "short" tk_BOW_SORTS_3), (.str "plain" tk_BOW_SORTS_4), (.str "any" tk_BOW_SORTS_5)].toArray nn_BOW_SORTS_1, slots := sl_BOW_SORTS_1 })
   : ∃ t, Txt K mg t ∧ t.f_law = f30 ∧ t.d_law = PySem.W.fnOf "law" "law" (defArgs s_law) (defBody s_law) (defScope s_law) .none kV30 dc30 pm30 an30 cd30 ct30 := by
 have F0 := fun_mk (st := s_is_name) l0 c0 k0
 have b0 := F0.binds (ps := ["thing"]) fun _ _ _ _ _ _ us hl => by obtain _ | ⟨_, _ | ⟨_, _⟩⟩ := us <;> first | rfl | cases hl
 have F1 := fun_mk (st := s_is_number) l1 c1 k1
 have b1 := F1.binds (ps := ["thing"]) fun _ _ _ _ _ _ us hl => by obtain _ | ⟨_, _ | ⟨_, _⟩⟩ := us <;> first | rfl | cases hl
 have F2 := fun_mk (st := s_is_value) l2 c2 k2
 have b2 := F2.binds (ps := ["thing"]) fun _ _ _ _ _ _ us hl => by obtain _ | ⟨_, _ | ⟨_, _⟩⟩ := us <;> first | rfl | cases hl
 have F3 := fun_mk (st := s_is_test) l3 c3 k3
 have b3 := F3.binds (ps := ["thing"]) fun _ _ _ _ _ _ us hl => by obtain _ | ⟨_, _ | ⟨_, _⟩⟩ := us <;> first | rfl | cases hl
 have F4 := fun_mk (st := s_is_way) l4 c4 k4
 have b4 := F4.binds (ps := ["thing"]) fun _ _ _ _ _ _ us hl => by obtain _ | ⟨_, _ | ⟨_, _⟩⟩ := us <;> first | rfl | cases hl
 have F5 := fun_mk (st := s_are_times) l5 c5 k5
 have b5 := F5.binds (ps := ["low", "high"]) fun _ _ _ _ _ _ us hl => by obtain _ | ⟨_, _ | ⟨_, _ | ⟨_, _⟩⟩⟩ := us <;> first | rfl | cases hl
 have F6 := fun_mk (st := s_is_pattern) l6 c6 k6
 have b6 := F6.binds (ps := ["thing"]) fun _ _ _ _ _ _ us hl => by obtain _ | ⟨_, _ | ⟨_, _⟩⟩ := us <;> first | rfl | cases hl
 have F7 := fun_mk (st := s_is_spot) l7 c7 k7
 have b7 := F7.binds (ps := ["thing"]) fun _ _ _ _ _ _ us hl => by obtain _ | ⟨_, _ | ⟨_, _⟩⟩ := us <;> first | rfl | cases hl
 have F8 := fun_mk (st := s_is_bow) l8 c8 k8
 have b8 := F8.binds (ps := ["thing", "many"]) fun _ _ _ _ _ _ us hl => by obtain _ | ⟨_, _ | ⟨_, _ | ⟨_, _⟩⟩⟩ := us <;> first | rfl | cases hl
 have F9 := fun_mk (st := s_is_pair) l9 c9 k9
 have b9 := F9.binds (ps := ["thing", "many"]) fun _ _ _ _ _ _ us hl => by obtain _ | ⟨_, _ | ⟨_, _ | ⟨_, _⟩⟩⟩ := us <;> first | rfl | cases hl
 have F10 := fun_mk (st := s_is_spot_number) l10 c10 k10
 have b10 := F10.binds (ps := ["thing", "many"]) fun _ _ _ _ _ _ us hl => by obtain _ | ⟨_, _ | ⟨_, _ | ⟨_, _⟩⟩⟩ := us <;> first | rfl | cases hl
 have F11 := fun_mk (st := s__law_box) l11 c11 k11
 have b11 := F11.binds (ps := ["_law_script", "_law_k"]) fun _ _ _ _ _ _ us hl => by obtain _ | ⟨_, _ | ⟨_, _ | ⟨_, _⟩⟩⟩ := us <;> first | rfl | cases hl
 have F12 := fun_mk (st := s__law_take) l12 c12 k12
 have b12 := F12.binds (ps := ["_law_box_here", "_law_many"]) fun _ _ _ _ _ _ us hl => by obtain _ | ⟨_, _ | ⟨_, _ | ⟨_, _⟩⟩⟩ := us <;> first | rfl | cases hl
 have F13 := fun_mk (st := s__law_value) l13 c13 k13
 have b13 := F13.binds (ps := ["_law_box_here"]) fun _ _ _ _ _ _ us hl => by obtain _ | ⟨_, _ | ⟨_, _⟩⟩ := us <;> first | rfl | cases hl
 have F14 := fun_mk (st := s__law_test) l14 c14 k14
 have b14 := F14.binds (ps := ["_law_box_here", "_law_deep"]) fun _ _ _ _ _ _ us hl => by obtain _ | ⟨_, _ | ⟨_, _ | ⟨_, _⟩⟩⟩ := us <;> first | rfl | cases hl
 have F15 := fun_mk (st := s__law_way) l15 c15 k15
 have b15 := F15.binds (ps := ["_law_box_here", "_law_deep"]) fun _ _ _ _ _ _ us hl => by obtain _ | ⟨_, _ | ⟨_, _ | ⟨_, _⟩⟩⟩ := us <;> first | rfl | cases hl
 have F16 := fun_mk (st := s__law_bows) l16 c16 k16
 have b16 := F16.binds (ps := ["_law_box_here", "_law_many", "_law_deep"]) fun _ _ _ _ _ _ us hl => by obtain _ | ⟨_, _ | ⟨_, _ | ⟨_, _ | ⟨_, _⟩⟩⟩⟩ := us <;> first | rfl | cases hl
 have F17 := fun_mk (st := s__law_pairs) l17 c17 k17
 have b17 := F17.binds (ps := ["_law_box_here", "_law_many"]) fun _ _ _ _ _ _ us hl => by obtain _ | ⟨_, _ | ⟨_, _ | ⟨_, _⟩⟩⟩ := us <;> first | rfl | cases hl
 have F18 := fun_mk (st := s__law_spots) l18 c18 k18
 have b18 := F18.binds (ps := ["_law_box_here", "_law_many"]) fun _ _ _ _ _ _ us hl => by obtain _ | ⟨_, _ | ⟨_, _ | ⟨_, _⟩⟩⟩ := us <;> first | rfl | cases hl
 have F19 := fun_mk (st := s__law_number) l19 c19 k19
 have b19 := F19.binds (ps := ["_law_thing"]) fun _ _ _ _ _ _ us hl => by obtain _ | ⟨_, _ | ⟨_, _⟩⟩ := us <;> first | rfl | cases hl
 have F20 := fun_mk (st := s__law_name) l20 c20 k20
 have b20 := F20.binds (ps := ["_law_thing"]) fun _ _ _ _ _ _ us hl => by obtain _ | ⟨_, _ | ⟨_, _⟩⟩ := us <;> first | rfl | cases hl
 have F21 := fun_mk (st := s__law_worded) l21 c21 k21
 have b21 := F21.binds (ps := ["_law_thing", "_law_lengths"]) fun _ _ _ _ _ _ us hl => by obtain _ | ⟨_, _ | ⟨_, _ | ⟨_, _⟩⟩⟩ := us <;> first | rfl | cases hl
 have F22 := fun_mk (st := s__law_right_test) l22 c22 k22
 have b22 := F22.binds (ps := ["_law_thing"]) fun _ _ _ _ _ _ us hl => by obtain _ | ⟨_, _ | ⟨_, _⟩⟩ := us <;> first | rfl | cases hl
 have F23 := fun_mk (st := s__law_right_way) l23 c23 k23
 have b23 := F23.binds (ps := ["_law_thing"]) fun _ _ _ _ _ _ us hl => by obtain _ | ⟨_, _ | ⟨_, _⟩⟩ := us <;> first | rfl | cases hl
 have F24 := fun_mk (st := s__law_right_bow) l24 c24 k24
 have b24 := F24.binds (ps := ["_law_thing", "_law_many"]) fun _ _ _ _ _ _ us hl => by obtain _ | ⟨_, _ | ⟨_, _ | ⟨_, _⟩⟩⟩ := us <;> first | rfl | cases hl
 have F25 := fun_mk (st := s__law_right_pair) l25 c25 k25
 have b25 := F25.binds (ps := ["_law_thing", "_law_many"]) fun _ _ _ _ _ _ us hl => by obtain _ | ⟨_, _ | ⟨_, _ | ⟨_, _⟩⟩⟩ := us <;> first | rfl | cases hl
 have F26 := fun_mk (st := s__law_due) l26 c26 k26
 have b26 := F26.binds (ps := ["_law_thing"]) fun _ _ _ _ _ _ us hl => by obtain _ | ⟨_, _ | ⟨_, _⟩⟩ := us <;> first | rfl | cases hl
 have F27 := fun_mk (st := s__law_odd) l27 c27 k27
 have b27 := F27.binds (ps := ["_law_box_here", "_law_thing"]) fun _ _ _ _ _ _ us hl => by obtain _ | ⟨_, _ | ⟨_, _ | ⟨_, _⟩⟩⟩ := us <;> first | rfl | cases hl
 have F28 := fun_mk (st := s__law_spoilt) l28 c28 k28
 have b28 := F28.binds (ps := ["_law_box_here", "_law_thing"]) fun _ _ _ _ _ _ us hl => by obtain _ | ⟨_, _ | ⟨_, _ | ⟨_, _⟩⟩⟩ := us <;> first | rfl | cases hl
 have F29 := fun_mk (st := s__law_folded) l29 c29 k29
 have b29 := F29.binds (ps := ["_law_script", "_law_many"]) fun _ _ _ _ _ _ us hl => by obtain _ | ⟨_, _ | ⟨_, _ | ⟨_, _⟩⟩⟩ := us <;> first | rfl | cases hl
 have F30 := fun_mk (st := s_law) l30 c30 k30
 have b30 := F30.binds (ps := ["_law_script"]) fun _ _ _ _ _ _ us hl => by obtain _ | ⟨_, _ | ⟨_, _⟩⟩ := us <;> first | rfl | cases hl
 exact ⟨⟨f0, _, f1, _, f2, _, f3, _, f4, _, f5, _, f6, _, f7, _, f8, _, f9, _, f10, _, f11, _, f12, _, f13, _, f14, _, f15, _, f16, _, f17, _, f18, _, f19, _, f20, _, f21, _, f22, _, f23, _, f24, _, f25, _, f26, _, f27, _, f28, _, f29, _, f30, _, _, _, _⟩, ⟨F0, b0, PySem.W.mg_of X G a0, F1, b1, PySem.W.mg_of X G a1, F2, b2, PySem.W.mg_of X G a2, F3, b3, PySem.W.mg_of X G a3, F4, b4, PySem.W.mg_of X G a4, F5, b5, PySem.W.mg_of X G a5, F6, b6, PySem.W.mg_of X G a6, F7, b7, PySem.W.mg_of X G a7, F8, b8, PySem.W.mg_of X G a8, F9, b9, PySem.W.mg_of X G a9, F10, b10, PySem.W.mg_of X G a10, F11, b11, PySem.W.mg_of X G a11, F12, b12, PySem.W.mg_of X G a12, F13, b13, PySem.W.mg_of X G a13, F14, b14, PySem.W.mg_of X G a14, F15, b15, PySem.W.mg_of X G a15, F16, b16, PySem.W.mg_of X G a16, F17, b17, PySem.W.mg_of X G a17, F18, b18, PySem.W.mg_of X G a18, F19, b19, PySem.W.mg_of X G a19, F20, b20, PySem.W.mg_of X G a20, F21, b21, PySem.W.mg_of X G a21, F22, b22, PySem.W.mg_of X G a22, F23, b23, PySem.W.mg_of X G a23, F24, b24, PySem.W.mg_of X G a24, F25, b25, PySem.W.mg_of X G a25, F26, b26, PySem.W.mg_of X G a26, F27, b27, PySem.W.mg_of X G a27, F28, b28, PySem.W.mg_of X G a28, F29, b29, PySem.W.mg_of X G a29, F30, b30, PySem.W.mg_of X G a30, PySem.W.mg_none_of X G z_abs, PySem.W.mg_none_of X G z_all, PySem.W.mg_none_of X G z_bool, PySem.W.mg_none_of X G z_enumerate, PySem.W.mg_none_of X G z_int, PySem.W.mg_none_of X G z_isinstance, PySem.W.mg_none_of X G z_len, PySem.W.mg_none_of X G z_list, PySem.W.mg_none_of X G z_max, PySem.W.mg_none_of X G z_range, PySem.W.mg_none_of X G z_str, PySem.W.mg_none_of X G z_tuple, PySem.W.mg_of X G c_LONGEST_NAME, const_int, PySem.W.mg_of X G c_MOST_TIMES, const_int, PySem.W.mg_of X G c_BOW_SORTS, (const_of l_BOW_SORTS_1 (by simp) (const_cons const_str (const_cons const_str (const_cons const_str (const_cons const_str const_nil)))))⟩, rfl, rfl⟩
end K39
open PySem PySem.W PyProof.Rows
set_option maxRecDepth 100000 in
set_option maxHeartbeats 0 in
theorem PySem.Challenge.cw_webstore_k39_what_patterns_are_holds : PySem.Challenge.rw_webstore_k39_what_patterns_are.Holds := by
 w_on; o_law; k_head; (case hw => w_witness2)
 k_fill
 refine L2.walk_ofK (l := PySem.Challenge.rw_webstore_k39_what_patterns_are) (n := 63) (k := 15) (x := "_law_script") (CX := L2.CX0) (sp := L2.spLaw) rfl (by decide) rfl ⟨rfl, by decide, by decide⟩ (fun w h Y => PySem.W.kIn_of Y) ?F ?S ?C
 case F =>
   intro w mg fa h KX G hmg
   have Z : ∃ f kV dc pm an cd ct t, K39.Txt (L2.KOf KX) mg t ∧ t.f_law = f ∧ t.d_law = PySem.W.fnOf "law" "law" (L2.defArgs K39.s_law) (L2.defBody K39.s_law) (L2.defScope K39.s_law) .none kV dc pm an cd ct := by
     dsimp only [L2.KOf]
     refine' ⟨_, _, _, _, _, _, _, K39.txt_mk KX G ?a0 ?l0 ?c0 ?k0 ?a1 ?l1 ?c1 ?k1 ?a2 ?l2 ?c2 ?k2 ?a3 ?l3 ?c3 ?k3 ?a4 ?l4 ?c4 ?k4 ?a5 ?l5 ?c5 ?k5 ?a6 ?l6 ?c6 ?k6 ?a7 ?l7 ?c7 ?k7 ?a8 ?l8 ?c8 ?k8 ?a9 ?l9 ?c9 ?k9 ?a10 ?l10 ?c10 ?k10 ?a11 ?l11 ?c11 ?k11 ?a12 ?l12 ?c12 ?k12 ?a13 ?l13 ?c13 ?k13 ?a14 ?l14 ?c14 ?k14 ?a15 ?l15 ?c15 ?k15 ?a16 ?l16 ?c16 ?k16 ?a17 ?l17 ?c17 ?k17 ?a18 ?l18 ?c18 ?k18 ?a19 ?l19 ?c19 ?k19 ?a20 ?l20 ?c20 ?k20 ?a21 ?l21 ?c21 ?k21 ?a22 ?l22 ?c22 ?k22 ?a23 ?l23 ?c23 ?k23 ?a24 ?l24 ?c24 ?k24 ?a25 ?l25 ?c25 ?k25 ?a26 ?l26 ?c26 ?k26 ?a27 ?l27 ?c27 ?k27 ?a28 ?l28 ?c28 ?k28 ?a29 ?l29 ?c29 ?k29 ?a30 ?l30 ?c30 ?k30 ?z_abs ?z_all ?z_bool ?z_enumerate ?z_int ?z_isinstance ?z_len ?z_list ?z_max ?z_range ?z_str ?z_tuple ?c_LONGEST_NAME ?c_MOST_TIMES ?c_BOW_SORTS ?l_BOW_SORTS_1⟩
     case a0 | l0 | c0 | k0 | a1 | l1 | c1 | k1 | a2 | l2 | c2 | k2 | a3 | l3 | c3 | k3 | a4 | l4 | c4 | k4 | a5 | l5 | c5 | k5 | a6 | l6 | c6 | k6 | a7 | l7 | c7 | k7 | a8 | l8 | c8 | k8 | a9 | l9 | c9 | k9 | a10 | l10 | c10 | k10 | a11 | l11 | c11 | k11 | a12 | l12 | c12 | k12 | a13 | l13 | c13 | k13 | a14 | l14 | c14 | k14 | a15 | l15 | c15 | k15 | a16 | l16 | c16 | k16 | a17 | l17 | c17 | k17 | a18 | l18 | c18 | k18 | a19 | l19 | c19 | k19 | a20 | l20 | c20 | k20 | a21 | l21 | c21 | k21 | a22 | l22 | c22 | k22 | a23 | l23 | c23 | k23 | a24 | l24 | c24 | k24 | a25 | l25 | c25 | k25 | a26 | l26 | c26 | k26 | a27 | l27 | c27 | k27 | a28 | l28 | c28 | k28 | a29 | l29 | c29 | k29 | a30 | l30 | c30 | k30 | z_abs | z_all | z_bool | z_enumerate | z_int | z_isinstance | z_len | z_list | z_max | z_range | z_str | z_tuple | c_LONGEST_NAME | c_MOST_TIMES | c_BOW_SORTS | l_BOW_SORTS_1 => k_is
   obtain ⟨f, kV, dc, pm, an, cd, ct, t, hT, hf, hd⟩ := Z
   have e := hmg.symm.trans hT.m_law
   rw [hf] at e
   cases e
   subst hf
   refine ⟨t.d_law, fun s u => by rw [hd]; exact .of_eq rfl, fun base kb nb => (K39.ok_law0 hT).mono (by decide)⟩
 case S => exact fun K H a ns hl hO hS => L2.spLaw_of hl hS
 case C => exact fun _ _ _ _ z => z
