import PyProof.Rows.All
import Wide.All
import OpenK.AllK
import Wide.FinOn
import Lean
import PyProof.EqAt
import PyProof.EqKinds
import PyProof.TupleCall
import PyProof.NeKinds
import PyProof.StrLawsIn
import PyProof.Draws
import PyProof.ZipIter
import PyProof.EnumMake
import PyProof.EnumFor
import KE.KRevIter
import PyProof.CollectWalk
import KE.KItemsList
import PySem.Challenge.RW_webstore_k57_plans_or_not
-- CHANGE: your row's module here, as the last of these rows
set_option Elab.async false
set_option linter.all false
set_option maxRecDepth 100000
namespace L2
open PySem PySem.Spec PyProof.Rows
abbrev Key := Sum Int Str
def keyIs : Key → Value → Bool
  | .inl k, v => Value.isInt k v
  | .inr x, v => Value.isStrOf x v
def keyH (w : World) : Key → Int
  | .inl k => hashInt k
  | .inr x => hashStr w x
theorem keyIs_shape : ∀ {k : Key} {v : Value}, keyIs k v = true → (∃ i t, k = Sum.inl i ∧ v = Value.int i t) ∨ (∃ x t, k = Sum.inr x ∧ v = Value.str x t)
  | .inl i, v, h => by
    obtain ⟨t, e⟩ := Value.isInt_shape (k := i) (v := v) h
    exact .inl ⟨i, t, rfl, e⟩
  | .inr x, v, h => by
    obtain ⟨t, e⟩ := Value.isStrOf_shape (x := x) (v := v) h
    exact .inr ⟨x, t, rfl, e⟩
theorem keyIs_int (i : Int) (t : Tok) : keyIs (.inl i) (.int i t) = true := by simp [keyIs, Value.isInt]
theorem keyIs_str (x : Str) (t : Tok) : keyIs (.inr x) (.str x t) = true := by simp [keyIs, Value.isStrOf]
theorem key_ll (a b : Int) : decide ((Sum.inl a : Key) = Sum.inl b) = (a == b) := by
  by_cases e : a = b
  · subst e; simp
  · have h : ¬ (Sum.inl a : Key) = Sum.inl b := fun q => e (Sum.inl.inj q)
    rw [decide_eq_false h]
    exact (beq_eq_false_iff_ne.mpr e).symm
theorem key_rr (a b : Str) : decide ((Sum.inr a : Key) = Sum.inr b) = decide (a = b) := by
  by_cases e : a = b
  · subst e; simp
  · have h : ¬ (Sum.inr a : Key) = Sum.inr b := fun q => e (Sum.inr.inj q)
    rw [decide_eq_false h, decide_eq_false e]
theorem key_lr (a : Int) (b : Str) : decide ((Sum.inl a : Key) = Sum.inr b) = false := decide_eq_false (fun q => nomatch q)
theorem key_rl (a : Str) (b : Int) : decide ((Sum.inr a : Key) = Sum.inl b) = false := decide_eq_false (fun q => nomatch q)

def mixKind (prog : Program) (w : World) : PySem.KeyKind prog w Key where
  is := keyIs
  hash := keyH w
  inj := fun v a b ha hb => by
    rcases keyIs_shape ha with ⟨i, t, rfl, rfl⟩ | ⟨x, t, rfl, rfl⟩
    · rcases keyIs_shape hb with ⟨j, u, rfl, e⟩ | ⟨y, u, rfl, e⟩
      · injection e with e1 _; rw [e1]
      · exact nomatch e
    · rcases keyIs_shape hb with ⟨j, u, rfl, e⟩ | ⟨y, u, rfl, e⟩
      · exact nomatch e
      · injection e with e1 _; rw [e1]
  byValue := fun k v h => by
    rcases keyIs_shape h with ⟨i, t, rfl, rfl⟩ | ⟨x, t, rfl, rfl⟩ <;> rfl
  pyHash := fun hv h => by
    rcases keyIs_shape hv with ⟨i, t, rfl, rfl⟩ | ⟨x, t, rfl, rfl⟩
    · exact wpAny_pyHash_int h
    · exact wpAny_pyHash_str h
  eqBool := fun hu hv h => by
    rcases keyIs_shape hu with ⟨i, t, rfl, rfl⟩ | ⟨x, t, rfl, rfl⟩
    · rcases keyIs_shape hv with ⟨j, u, rfl, rfl⟩ | ⟨y, u, rfl, rfl⟩
      · rw [key_ll] at h; exact wpAny_eqBool_int h
      · rw [key_lr] at h; exact SeqAt.EqAt.int_str i t y u _ _ _ _ h
    · rcases keyIs_shape hv with ⟨j, u, rfl, rfl⟩ | ⟨y, u, rfl, rfl⟩
      · rw [key_rl] at h; exact SeqAt.EqAt.str_int x t j u _ _ _ _ h
      · rw [key_rr] at h; exact wpAny_eqBool_str h
  «strs» := fun k x t v h => by
    rcases keyIs_shape h with ⟨i, u, rfl, e⟩ | ⟨y, u, rfl, e⟩
    · exact nomatch e
    · injection e with e1 _
      subst e1
      cases v <;> rfl

theorem mixKind_int (prog : Program) (w : World) (i : Int) (t : Tok) : (mixKind prog w).is (.inl i) (.int i t) = true := keyIs_int i t
theorem mixKind_str (prog : Program) (w : World) (x : Str) (t : Tok) : (mixKind prog w).is (.inr x) (.str x t) = true := keyIs_str x t
end L2
namespace L2
open PySem PySem.Spec PyProof.Rows
inductive V where
  | non | bl (b : Bool) | int (i : Int) | str (x : Str) | byt (b : Array UInt8) | flt (b : UInt64) | ref (a : Addr) | ty (n : String)
  deriving DecidableEq

def RelV : V → Value → Prop
  | .non, u => u = Value.none
  | .bl b, u => u = Value.bool b
  | .int i, u => ∃ t, u = Value.int i t
  | .str x, u => ∃ t, u = Value.str x t
  | .byt b, u => ∃ t, u = Value.bytes b t
  | .flt b, u => ∃ t, u = Value.float b t
  | .ref a, u => u = Value.ref a
  | .ty n, u => u = Value.type n

abbrev Vals : List V → List Value → Prop := Paired RelV
theorem Vals.length {xs : List V} {us : List Value} (r : Vals xs us) : xs.length = us.length := Paired.length r
theorem Vals.get : ∀ {xs : List V} {us : List Value} {i : Nat} {x : V}, Vals xs us → xs[i]? = some x → ∃ u, us[i]? = some u ∧ RelV x u
  | _, _, _, _, .nil, e => by simp at e
  | _, _, 0, _, .cons r _, e => by simp at e; subst e; exact ⟨_, rfl, r⟩
  | _, _, i + 1, x, .cons _ t, e => by
    obtain ⟨u, h1, h2⟩ := Vals.get (i := i) (x := x) t (by simpa using e)
    exact ⟨u, by simpa using h1, h2⟩
theorem Vals.set {x : V} {u : Value} (r : RelV x u) : ∀ {xs : List V} {us : List Value} (i : Nat), Vals xs us → Vals (xs.set i x) (us.set i u)
  | _, _, _, .nil => .nil
  | _, _, 0, .cons _ t => .cons r t
  | _, _, i + 1, .cons q t => .cons q (Vals.set r i t)
theorem Vals.append : ∀ {xs ys : List V} {us ws : List Value}, Vals xs us → Vals ys ws → Vals (xs ++ ys) (us ++ ws)
  | _, _, _, _, .nil, s => s
  | _, _, _, _, .cons r t, s => .cons r (Vals.append t s)
theorem Vals.take : ∀ {xs : List V} {us : List Value} (n : Nat), Vals xs us → Vals (xs.take n) (us.take n)
  | _, _, 0, _ => .nil
  | _, _, _ + 1, .nil => .nil
  | _, _, n + 1, .cons r t => .cons r (Vals.take n t)
theorem Vals.drop : ∀ {xs : List V} {us : List Value} (n : Nat), Vals xs us → Vals (xs.drop n) (us.drop n)
  | _, _, 0, r => r
  | _, _, _ + 1, .nil => .nil
  | _, _, n + 1, .cons _ t => Vals.drop n t
def RelO : Option V → Option Value → Prop
  | some v, some u => RelV v u
  | none, none => True
  | _, _ => False
def KV {κ : Type} : List (κ × V) → List (κ × Value) → Prop := Paired fun (p : κ × V) (q : κ × Value) => p.1 = q.1 ∧ RelV p.2 q.2

def kV : Key → V
  | .inl i => .int i
  | .inr x => .str x

inductive HO where
  /-- a list -/
  | lst (xs : List V)
  /-- a tuple (never changes) -/
  | tup (xs : List V)
  /-- a dict whose keys are ints and texts; one whose keys are tuples of ints and texts (the empty one is both) -/
  | dK (kvs : List (Key × V)) | dT (kvs : List (List Key × V))
  /-- a set of ints: its members, its size -/
  | set (S : Int → Bool) (n : Nat)
  /-- an instance of the class at C, its dict at dx, its attributes -/
  | ins (C dx : Addr) (fs : List (Str × V))
  /-- the dict of the instance at x -/
  | own (x : Addr)
  /-- the dict of an exception -/
  | xd (fs : List (Str × V))
  /-- a bound method, f of x -/
  | met (f x : Addr)
  /-- a range object lo, lo + 1, .. below hi -/
  | rng (lo hi : Int)
  /-- a thing that is known to the object (the script; a dict while a loop walks it): read, never written while it is so -/
  | frz (o : Obj) (u : HO)
  /-- a code object's table -/
  | tbl (ps : Array Value)
  /-- any other thing, by what is true of its one object (a def of one's own: SetO a S n := HO.ext fun h => ..) -/
  | ext (φ : Heap → Prop)

abbrev Hp := Addr → Option HO
def upd (H : Hp) (a : Addr) (o : HO) : Hp := fun b => if b = a then some o else H b
theorem upd_same {H : Hp} {a : Addr} {o : HO} : upd H a o a = some o := by unfold upd; rw [if_pos rfl]
theorem upd_ne {H : Hp} {a b : Addr} {o : HO} (h : b ≠ a) : upd H a o b = H b := by unfold upd; rw [if_neg h]
theorem ne_of_none {H : Hp} {a b : Addr} {o : HO} (h : H a = some o) (h' : H b = none) : a ≠ b := by
  intro e; subst e; rw [h] at h'; cases h'

section
variable (P : Program) (w : World)
def ObjOk (H : Hp) (h : Heap) (a : Addr) : HO → Prop
  | .lst xs => xs.length ≤ sizeLine ∧ ∃ (its : List Value) (n : Nat), Vals xs its ∧ h.get? a = some { cls := .type "list", data := .seq its.toArray n }
  | .tup xs => xs.length ≤ sizeLine ∧ ∃ its : List Value, Vals xs its ∧ IsTup h a its.toArray
  | .dK kvs => kvs.length ≤ sizeLine ∧ (a == sysModules) = false ∧ ∃ vs, KV kvs vs ∧ h.DictOf (mixKind P w) a vs
  | .dT kvs => kvs.length ≤ sizeLine ∧ (a == sysModules) = false ∧ ∃ xs : List (List Key × Addr × Value),
      Paired (fun (p : List Key × V) (q : List Key × Addr × Value) => p.1 = q.1 ∧ H q.2.1 = some (.tup (p.1.map kV)) ∧ RelV p.2 q.2.2) kvs xs ∧
      ∃ o es ep, h.get? a = some o ∧ o.ExactDict ∧ o.data = .dict es ep ∧ es.toList = xs.map (entryOfKey (tupleKind (mixKind P w))) ∧ (xs.map (·.1)).Nodup
  | .set S n => h.SetOf (intKind P w) a S n
  | .ins C dx fs => H dx = some (.own a) ∧ fs.length ≤ 1000 ∧ dx ≠ a ∧ h.get? a = some (PySem.W.instObj C dx) ∧
      ∃ mA, h.Ns1 dx mA ∧ (∀ f, RelO (fs.lookup f) (mA f)) ∧ PySem.Within mA (fs.map (·.1))
  | .own _ => ∃ o, h.get? a = some o
  | .xd fs => ∃ mA, h.Ns1 a mA ∧ ∀ f, RelO (fs.lookup f) (mA f)
  | .rng lo hi => ∃ t u v, h.get? a = some { cls := .type "range", data := .fields #[.int lo t, .int hi u, .int 1 v] }
  | .frz o u => h.get? a = some o ∧ ObjOk H h a u
  | .tbl ps => h.get? a = some { cls := .none, data := .fields ps }
  | .met f x => h.get? a = some (PySem.W.methodObj (.ref f) (.ref x))
  | .ext φ => φ h ∧ (∃ o, h.get? a = some o) ∧ ∀ h1 h2 : Heap, φ h1 → (∀ o, h1.get? a = some o → h2.get? a = some o) → φ h2
def HOk (H : Hp) (h : Heap) : Prop := ∀ a o, H a = some o → ObjOk P w H h a o
end
section
variable {P : Program} {w : World} {H H' : Hp} {h h' : Heap} {a : Addr} {o : HO}
theorem ObjOk.lt (x : ObjOk P w H h a o) : a < h.objs.size := by
  cases o with
  | lst xs => obtain ⟨_, _, _, _, e⟩ := x; exact Heap.lt_size e
  | tup xs => obtain ⟨_, _, _, p⟩ := x; exact p.lt
  | dK kvs => obtain ⟨_, _, _, _, o, _, _, e, _⟩ := x; exact Heap.lt_size e
  | dT kvs => obtain ⟨_, _, _, _, o, _, _, e, _⟩ := x; exact Heap.lt_size e
  | set S n => obtain ⟨o, _, _, _, e, _⟩ := x; exact Heap.lt_size e
  | ins C dx fs => obtain ⟨_, _, _, e, _⟩ := x; exact Heap.lt_size e
  | own y => obtain ⟨_, e⟩ := x; exact Heap.lt_size e
  | xd fs => obtain ⟨_, ⟨_, _, _, e, _⟩, _⟩ := x; exact Heap.lt_size e
  | rng lo hi => obtain ⟨_, _, _, e⟩ := x; exact Heap.lt_size e
  | frz ob u => obtain ⟨e, _⟩ := x; exact Heap.lt_size e
  | tbl ps => exact Heap.lt_size (show h.get? a = some _ from x)
  | met f y => exact Heap.lt_size (show h.get? a = some _ from x)
  | ext φ => obtain ⟨_, ⟨_, e⟩, _⟩ := x; exact Heap.lt_size e
theorem Paired.mapP {α β : Type} {F G : α → β → Prop} : ∀ {l₁ : List α} {l₂ : List β}, Paired F l₁ l₂ → (∀ a b, F a b → G a b) → Paired G l₁ l₂
  | _, _, .nil, _ => .nil
  | _, _, .cons r t, f => .cons (f _ _ r) (Paired.mapP t f)
theorem ObjOk.stay (x : ObjOk P w H h a o) (k : ∀ b u, (b = a ∨ H b = some (.own a)) → h.get? b = some u → h'.get? b = some u)
    (ho : ∀ b, H b = some (.own a) → H' b = some (.own a)) (ht : ∀ b xs, H b = some (.tup xs) → H' b = some (.tup xs)) : ObjOk P w H' h' a o := by
  induction o with
  | lst xs => obtain ⟨z, its, n, r, e⟩ := x; exact ⟨z, its, n, r, k _ _ (.inl rfl) e⟩
  | tup xs => obtain ⟨z, its, r, ob, e, c⟩ := x; exact ⟨z, its, r, ob, k _ _ (.inl rfl) e, c⟩
  | dK kvs => obtain ⟨z, y, vs, r, ob, es, ep, e, c⟩ := x; exact ⟨z, y, vs, r, ob, es, ep, k _ _ (.inl rfl) e, c⟩
  | dT kvs =>
    obtain ⟨z, y, xs, r, ob, es, ep, e, c⟩ := x
    exact ⟨z, y, xs, Paired.mapP r fun p q z => ⟨z.1, ht _ _ z.2.1, z.2.2⟩, ob, es, ep, k _ _ (.inl rfl) e, c⟩
  | set S n => obtain ⟨ob, es, ep, t, e, c⟩ := x; exact ⟨ob, es, ep, t, k _ _ (.inl rfl) e, c⟩
  | ins C dx fs =>
    obtain ⟨d, z, ne, e, mA, ⟨od, es, ep, e2, c⟩, r⟩ := x
    exact ⟨ho _ d, z, ne, k _ _ (.inl rfl) e, mA, ⟨od, es, ep, k _ _ (.inr d) e2, c⟩, r⟩
  | own y => obtain ⟨ob, e⟩ := x; exact ⟨ob, k _ _ (.inl rfl) e⟩
  | xd fs => obtain ⟨mA, ⟨od, es, ep, e, c⟩, r⟩ := x; exact ⟨mA, ⟨od, es, ep, k _ _ (.inl rfl) e, c⟩, r⟩
  | rng lo hi => obtain ⟨t, u, v, e⟩ := x; exact ⟨t, u, v, k _ _ (.inl rfl) e⟩
  | frz ob u ih => obtain ⟨e, q⟩ := x; exact ⟨k _ _ (.inl rfl) e, ih q⟩
  | tbl ps =>
    have e : h.get? a = some { cls := .none, data := .fields ps } := x
    show h'.get? a = some { cls := .none, data := .fields ps }
    exact k a _ (.inl rfl) e
  | met f y =>
    have e : h.get? a = some (PySem.W.methodObj (.ref f) (.ref y)) := x
    show h'.get? a = some (PySem.W.methodObj (.ref f) (.ref y))
    exact k a _ (.inl rfl) e
  | ext φ => obtain ⟨p, ⟨o, e⟩, st⟩ := x; exact ⟨st _ _ p fun o q => k _ _ (.inl rfl) q, ⟨o, k _ _ (.inl rfl) e⟩, st⟩
theorem HOk.lt (x : HOk P w H h) (e : H a = some o) : a < h.objs.size := (x a o e).lt
theorem HOk.fresh (x : HOk P w H h) (e : h.objs.size ≤ a) : H a = none := by
  cases q : H a with
  | none => rfl
  | some u => exact absurd (Nat.lt_of_lt_of_le (x.lt q) e) (Nat.lt_irrefl _)
theorem HOk.kept (x : HOk P w H h) (k : ∀ b u, h.get? b = some u → h'.get? b = some u) : HOk P w H h' := fun a o e =>
  (x a o e).stay (fun b u _ q => k b u q) (fun _ q => q) fun _ _ q => q
theorem HOk.laid (x : HOk P w H h) (k : ∀ b u, h.get? b = some u → h'.get? b = some u) (hp : h.objs.size ≤ a) (new : ObjOk P w (upd H a o) h' a o) : HOk P w (upd H a o) h' := fun b u e => by
  have hn := x.fresh hp
  by_cases hb : b = a
  · subst hb; rw [upd_same] at e; cases e; exact new
  · rw [upd_ne hb] at e
    exact (x b u e).stay (fun c v _ q => k c v q) (fun c q => by rw [upd_ne (ne_of_none q hn)]; exact q) fun c xs q => by rw [upd_ne (ne_of_none q hn)]; exact q
end
def Rd (H : Hp) (a : Addr) (u : HO) : Prop := H a = some u ∨ ∃ o, H a = some (.frz o u)
theorem Rd.ok {P : Program} {w : World} {H : Hp} {h : Heap} {a : Addr} {u : HO} (r : Rd H a u) (x : HOk P w H h) : ObjOk P w H h a u := by
  rcases r with r | ⟨o, r⟩
  · exact x a u r
  · obtain ⟨_, q⟩ := x a _ r
    exact q
def Mut : Option HO → Prop
  | some (.lst _) => True
  | some (.dK _) => True
  | some (.dT _) => True
  | some (.set _ _) => True
  | some (.ins _ _ _) => True
  | some (.ext _) => True
  | _ => False
section
variable {P : Program} {w : World} {H : Hp} {h h' : Heap} {x e : Addr} {o' : HO}
theorem HOk.write (ok : HOk P w H h) (mu : Mut (H x)) (he : e = x ∨ H e = some (.own x)) (k : ∀ b u, b ≠ e → h.get? b = some u → h'.get? b = some u) (heo : ∃ u, h'.get? e = some u)
    (new : ObjOk P w (upd H x o') h' x o') : HOk P w (upd H x o') h' := fun b u q => by
  have nown : ∀ c y, H c = some (.own y) → c ≠ x := fun c y r z => by subst z; rw [r] at mu; exact mu
  have ntup : ∀ c xs, H c = some (.tup xs) → c ≠ x := fun c xs r z => by subst z; rw [r] at mu; exact mu
  by_cases hb : b = x
  · subst hb; rw [upd_same] at q; cases q; exact new
  · rw [upd_ne hb] at q
    by_cases hbe : b = e
    · have q' : H b = some (.own x) := by
        rcases he with z | z
        · exact absurd (hbe.trans z) hb
        · rw [hbe]; exact z
      rw [q] at q'; cases q'
      obtain ⟨v, hv⟩ := heo
      exact ⟨v, by rw [hbe]; exact hv⟩
    · refine (ok b u q).stay (fun c v hc r => k c v ?_ r) (fun c r => by rw [upd_ne (nown c b r)]; exact r) fun c xs r => by rw [upd_ne (ntup c xs r)]; exact r
      rcases hc with rfl | hc
      · exact hbe
      · rintro rfl
        rcases he with z | z
        · exact nown c b hc z
        · rw [hc] at z; cases z; exact hb rfl
end
structure Un (fs ex : List Addr) (H H' : Hp) (h h' : Heap) : Prop where
  keep : ∀ b o, h.get? b = some o → H b = none → b ∉ fs → b ∉ ex → h'.get? b = some o
  slot : ∀ b o, h.get? b = some o → H b = none → b ∈ fs → b ∉ ex → ∃ sl, h'.get? b = some { o with slots := sl }
  free : ∀ b o, h.get? b = some o → H b = none → b ∉ ex → H' b = none
  there : ∀ b o, h.get? b = some o → b ∉ ex → ∃ o', h'.get? b = some o'
  tups : ∀ b xs, H b = some (.tup xs) → H' b = some (.tup xs)
  frzs : ∀ b o u, H b = some (.frz o u) → H' b = some (.frz o u)
  tbls : ∀ b ps, H b = some (.tbl ps) → ∃ more, H' b = some (.tbl (ps ++ more))
section
variable {fs fs' ex ex' : List Addr} {H H1 H2 : Hp} {h h1 h2 h' : Heap} {a x e : Addr} {o : HO}
theorem Un.any (u : Un fs ex H H1 h h1) {b : Addr} {ob : Obj} (q : h.get? b = some ob) (n : H b = none) (hx : b ∉ ex) : ∃ sl, h1.get? b = some { ob with slots := sl } := by
  by_cases hb : b ∈ fs
  · exact u.slot b ob q n hb hx
  · exact ⟨ob.slots, u.keep b ob q n hb hx⟩
theorem Un.trans (a : Un fs ex H H1 h h1) (b : Un fs ex H1 H2 h1 h2) : Un fs ex H H2 h h2 where
  keep := fun c ob q n hc hx => b.keep c ob (a.keep c ob q n hc hx) (a.free c ob q n hx) hc hx
  slot := fun c ob q n hc hx => by
    obtain ⟨sl, e1⟩ := a.slot c ob q n hc hx
    obtain ⟨sl', e2⟩ := b.slot c _ e1 (a.free c ob q n hx) hc hx
    exact ⟨sl', e2⟩
  free := fun c ob q n hx => by
    obtain ⟨o', e1⟩ := a.there c ob q hx
    exact b.free c o' e1 (a.free c ob q n hx) hx
  there := fun c ob q hx => by
    obtain ⟨o', e1⟩ := a.there c ob q hx
    exact b.there c o' e1 hx
  tups := fun c xs q => b.tups c xs (a.tups c xs q)
  frzs := fun c ob xs q => b.frzs c ob xs (a.frzs c ob xs q)
  tbls := fun c ps q => by
    obtain ⟨m1, e1⟩ := a.tbls c ps q
    obtain ⟨m2, e2⟩ := b.tbls c _ e1
    exact ⟨m1 ++ m2, by rw [e2, Array.append_assoc]⟩
theorem Un.kept (k : ∀ b u, h.get? b = some u → h'.get? b = some u) : Un fs ex H H h h' :=
  ⟨fun b ob q _ _ _ => k b ob q, fun b ob q _ _ _ => ⟨ob.slots, k b ob q⟩, fun _ _ _ n _ => n, fun b ob q _ => ⟨ob, k b ob q⟩, fun _ _ q => q, fun _ _ _ q => q, fun _ ps q => ⟨#[], by rw [q]; simp⟩⟩
theorem Un.refl : Un fs ex H H h h := Un.kept fun _ _ q => q
theorem Un.laid (k : ∀ b u, h.get? b = some u → h'.get? b = some u) (hp : h.objs.size ≤ a) (hn : H a = none) : Un fs ex H (upd H a o) h h' where
  keep := fun b u q _ _ _ => k b u q
  slot := fun b u q _ _ _ => ⟨u.slots, k b u q⟩
  free := fun b u q n _ => by rw [upd_ne (Nat.ne_of_lt (Nat.lt_of_lt_of_le (Heap.lt_size q) hp))]; exact n
  there := fun b u q _ => ⟨u, k b u q⟩
  tups := fun b xs q => by rw [upd_ne (ne_of_none q hn)]; exact q
  frzs := fun b u xs q => by rw [upd_ne (ne_of_none q hn)]; exact q
  tbls := fun b ps q => ⟨#[], by rw [upd_ne (ne_of_none q hn), q]; simp⟩
theorem Un.write (mu : Mut (H x)) (he : e = x ∨ H e = some (.own x)) (k : ∀ b u, b ≠ e → h.get? b = some u → h'.get? b = some u) (heo : ∃ u, h'.get? e = some u) : Un fs ex H (upd H x o) h h' := by
  have hx : ∀ b, H b = none → b ≠ x := fun b n z => by subst z; rw [n] at mu; exact mu
  have hb : ∀ b, H b = none → b ≠ e := fun b n z => by
    subst z
    rcases he with r | r
    · exact hx b n r
    · rw [n] at r; cases r
  have hm : ∀ b u, H b = some u → ¬ Mut (some u) → b ≠ x := fun b u q nm z => by subst z; rw [q] at mu; exact nm mu
  refine ⟨fun b u q n _ _ => k b u (hb b n) q, fun b u q n _ _ => ⟨u.slots, k b u (hb b n) q⟩, fun b u q n _ => by rw [upd_ne (hx b n)]; exact n, fun b u q _ => ?_,
    fun b xs q => by rw [upd_ne (hm b _ q fun z => z)]; exact q, fun b u xs q => by rw [upd_ne (hm b _ q fun z => z)]; exact q, fun b ps q => ⟨#[], by rw [upd_ne (hm b _ q fun z => z), q]; simp⟩⟩
  by_cases hbe : b = e
  · subst hbe; exact heo
  · exact ⟨u, k b u hbe q⟩
end
def trk (h : Heap) (H : Hp) : List Addr := (List.range h.objs.size).filter fun a => (H a).isSome
def hidT (h : Heap) (H : Hp) : Heap := PySem.W.hideAll h (trk h H)
theorem hidT_size (h : Heap) (H : Hp) : (hidT h H).objs.size = h.objs.size := PySem.W.hideAll_size _ _
theorem hidT_get {h : Heap} {H : Hp} {b : Addr} {o : Obj} (e : h.get? b = some o) (n : H b = none) : (hidT h H).get? b = some o :=
  PySem.W.hideAll_get _ e fun hm => by
    have q : (H b).isSome = true := (List.mem_filter.mp hm).2
    rw [n] at q; simp at q
theorem of_hidT {h : Heap} {H : Hp} {b : Addr} {o : Obj} (e : (hidT h H).get? b = some o) : h.get? b = some o ∧ H b = none := by
  have e' : h.get? b = some o := PySem.W.of_hideAll (trk h H) e
  refine ⟨e', ?_⟩
  cases q : H b with
  | none => rfl
  | some x =>
    have hm : b ∈ trk h H := List.mem_filter.mpr ⟨List.mem_range.mpr (Heap.lt_size e'), by simp [q]⟩
    have z : (hidT h H).get? b = none := PySem.W.hideAll_none (trk h H) hm
    rw [z] at e; cases e

end L2
namespace L2
open PySem PySem.Spec PyProof.Rows
structure Mod (K : PySem.W.Frag) (mg : Str → Option Value) (base : Heap) : Prop where
  kin : K.In base
  glob : base.Ns mainGlobals mg
  blt : ∃ mb, base.Ns builtinsNs mb ∧ ∀ x : Str, x ≠ "__name__" → mb x = bootBuiltins x
  nolimit : base.NoLimit

structure Cx where
  prog : Program
  w : World
  K : PySem.W.Frag
  mg : Str → Option Value
  base : Heap
  A : Around
  N : List Str
  s₀ : Shared
  H₀ : Hp
  env : Env
  outer : List Env
  stack : List Env
  ex : List Addr
  fn : Str → Bool
  calm : Bool
  pn : List (Addr × Obj)
  xe : Value → Shared → Prop
def frs (l : List Env) : List Addr := l.filterMap (·.frame)
abbrev Cx.fs (X : Cx) : List Addr := frs X.outer

def Vis (sc : Scope) (x : Str) : Prop := sc.names.lookup x = some .local ∨ sc.names.lookup x = some .cell ∨ sc.names.lookup x = some .free
def Loc (sc : Scope) (x : Str) : Prop := sc.names.lookup x = some .local ∨ sc.names.lookup x = some .cell
def Look (env : Env) (h : Heap) (m : Str → Option Value) (x : Str) (u : Value) : Prop :=
  (env.kindOf x = some .local ∧ m x = some u) ∨ ((env.kindOf x = some .cell ∨ env.kindOf x = some .free) ∧ ∃ c, env.cells.lookup x = some c ∧ h.IsCell c (some u))

structure Cx.Ok (X : Cx) : Prop where
  mod : Mod X.K X.mg X.base
  kind : X.env.scope.kind = .function
  glob : X.env.globals = mainGlobals
  blt : X.env.builtins = builtinsNs
  above : X.s₀.heap.objs.size ≤ X.env.locals
  inj : ∀ x y c, X.env.cells.lookup x = some c → X.env.cells.lookup y = some c → x = y
  has : ∀ x, (X.env.kindOf x = some .cell ∨ X.env.kindOf x = some .free) → ∃ c, X.env.cells.lookup x = some c
  cab : ∀ x c, X.fn x = true → X.env.cells.lookup x = some c → X.s₀.heap.objs.size ≤ c
  hd : X.calm = true → X.A.handled = none
  frames : X.A.frames = some X.stack
  stk : X.stack = X.outer ∨ (X.stack = X.env :: X.outer ∧ X.env.frame = some X.env.locals)
  exf : ∀ b ∈ X.ex, b ≠ X.env.locals ∧ ∀ x c, X.env.cells.lookup x = some c → c ≠ b
  bs : ∀ b o, X.base.get? b = some o → X.s₀.heap.get? b = some o ∧ X.H₀ b = none
  bsz : X.base.objs.size ≤ X.s₀.heap.objs.size
  noex : ∀ b o, X.base.get? b = some o → b ∉ X.ex
  exfs : ∀ b ∈ X.ex, b ∉ X.fs
  funs : X.s₀.heap.FunFrames X.base X.outer
  frf : ∀ b ∈ X.fs, X.H₀ b = none

structure Inv (X : Cx) (pins : List (Addr × Obj)) (σ : List (Option V)) (H : Hp) (s : Shared) : Prop where
  ok : X.Ok
  os : s.os = X.s₀.os
  bare : AllBare s.gens
  base : Un X.fs X.ex X.H₀ H X.s₀.heap s.heap
  loc : ∃ m, s.heap.Ns X.env.locals m ∧ ∀ (i : Nat) (x : Str) (v : V), X.N[i]? = some x → σ[i]? = some (some v) → Vis X.env.scope x → ∃ u, RelV v u ∧ Look X.env s.heap m x u
  cell : ∀ x c, X.env.cells.lookup x = some c → ∃ v, s.heap.IsCell c v
  free : H X.env.locals = none
  freeC : ∀ x c, X.env.cells.lookup x = some c → H c = none
  pin : ∀ p ∈ X.pn ++ pins, s.heap.get? p.1 = some p.2 ∧ H p.1 = none ∧ p.1 ≠ X.env.locals ∧ p.1 ∉ X.fs ∧ ∀ v, p.2.data ≠ .cell v
  hok : HOk X.prog X.w H s.heap
  len : σ.length = X.N.length

section
variable {X : Cx} {pins : List (Addr × Obj)} {σ : List (Option V)} {H H' : Hp} {s : Shared} {h' : Heap}
theorem Cx.Ok.nofr (ok : X.Ok) {b : Addr} {o : Obj} (e : X.base.get? b = some o) : b ∉ X.fs := fun hb => by
  have := (ok.funs.mem hb).1
  rw [e] at this; cases this
theorem Inv.bs (I : Inv X pins σ H s) : ∀ b o, X.base.get? b = some o → s.heap.get? b = some o ∧ H b = none := fun b o e =>
  ⟨I.base.keep b o (I.ok.bs b o e).1 (I.ok.bs b o e).2 (I.ok.nofr e) (I.ok.noex b o e), I.base.free b o (I.ok.bs b o e).1 (I.ok.bs b o e).2 (I.ok.noex b o e)⟩
theorem Inv.bk (I : Inv X pins σ H s) : ∀ b o, X.base.get? b = some o → s.heap.get? b = some o := fun b o e => (I.bs b o e).1
theorem Inv.mod (I : Inv X pins σ H s) : Mod X.K X.mg X.base := I.ok.mod
theorem Inv.kIn (I : Inv X pins σ H s) : X.K.In s.heap := I.ok.mod.kin.keeps I.bk
theorem Inv.lt (I : Inv X pins σ H s) : X.env.locals < s.heap.objs.size := let ⟨_, hn, _⟩ := I.loc; hn.lt
theorem Inv.sz (I : Inv X pins σ H s) : X.s₀.heap.objs.size ≤ s.heap.objs.size := Nat.le_trans I.ok.above (Nat.le_of_lt I.lt)
theorem Inv.nofs (I : Inv X pins σ H s) {a : Addr} (h : s.heap.objs.size ≤ a) : a ∉ X.fs := fun hb => by
  obtain ⟨_, o, ho, _⟩ := I.ok.funs.mem hb
  exact absurd (Nat.lt_of_lt_of_le (Heap.lt_size ho) (Nat.le_trans I.sz h)) (Nat.lt_irrefl _)
theorem Inv.cne (I : Inv X pins σ H s) : ∀ x c, X.env.cells.lookup x = some c → c ≠ X.env.locals := fun x c e z => by
  obtain ⟨v, o, ho, hd⟩ := I.cell x c e
  obtain ⟨m, ⟨o', es, ep, ho', hd', _⟩, _⟩ := I.loc
  rw [z, ho'] at ho; cases ho; rw [hd'] at hd; cases hd
theorem Inv.funs (I : Inv X pins σ H s) : s.heap.FunFrames X.base X.outer := by
  have all : ∀ (l : List Env), (∀ b ∈ frs l, b ∈ X.fs) → X.s₀.heap.FunFrames X.base l → s.heap.FunFrames X.base l := by
    intro l
    induction l with
    | nil => intro _ _; trivial
    | cons env r ih =>
      intro hs hl
      obtain ⟨hk, ⟨L, o, hf, hn, ho, hd⟩, hr⟩ := hl
      have hL : L ∈ X.fs := hs L (by unfold frs; rw [List.filterMap_cons, hf]; exact List.mem_cons_self)
      obtain ⟨sl, e⟩ := I.base.slot L o ho (I.ok.frf L hL) hL fun z => I.ok.exfs L z hL
      exact ⟨hk, ⟨L, _, hf, hn, e, hd⟩, ih (fun b hb => hs b (by unfold frs; rw [List.filterMap_cons, hf]; exact List.mem_cons_of_mem _ hb)) hr⟩
  exact all X.outer (fun _ hb => hb) I.ok.funs

theorem Inv.stack (I : Inv X pins σ H s) : s.heap.FunFrames X.base X.stack := by
  rcases I.ok.stk with e | ⟨e, hf⟩
  · rw [e]; exact I.funs
  · rw [e]
    obtain ⟨m, hn, _⟩ := I.loc
    refine .cons (by rw [I.ok.kind]; decide) hf hn ?_ I.funs
    exact Heap.get?_none_of_le (Nat.le_trans I.ok.bsz I.ok.above)
theorem Inv.stkSub (I : Inv X pins σ H s) : ∀ b ∈ frs X.stack, b ∈ X.env.locals :: X.fs := fun b hb => by
  rcases I.ok.stk with e | ⟨e, hf⟩
  · rw [e] at hb; exact List.mem_cons_of_mem _ hb
  · rw [e] at hb
    unfold frs at hb
    rw [List.filterMap_cons, hf] at hb
    exact hb
theorem Inv.stkFree (I : Inv X pins σ H s) : ∀ b ∈ frs X.stack, H b = none := fun b hb => by
  rcases List.mem_cons.mp (I.stkSub b hb) with e | hb
  · rw [e]; exact I.free
  · obtain ⟨_, o, ho, _⟩ := I.ok.funs.mem hb
    exact I.base.free b o ho (I.ok.frf b hb) fun z => I.ok.exfs b z hb

theorem Inv.step {g' : Array GenState} {t' : Nat} {d' : Drawn} {ch : List Addr} (I : Inv X pins σ H s)
    (hch : ∀ b ∈ ch, (b ∈ X.ex ∨ X.s₀.heap.objs.size ≤ b) ∧ b ≠ X.env.locals ∧ (∀ x c, X.env.cells.lookup x = some c → c ≠ b) ∧ ∀ p ∈ X.pn ++ pins, p.1 ≠ b)
    (keep : ∀ b o, b ≠ X.env.locals → b ∉ X.fs → b ∉ ch → s.heap.get? b = some o → H b = none → h'.get? b = some o)
    (slot : ∀ b o, b ≠ X.env.locals → b ∈ X.fs → b ∉ ch → s.heap.get? b = some o → H b = none → ∃ sl, h'.get? b = some { o with slots := sl }) (free : ∀ b o, b ∉ ch → s.heap.get? b = some o → H b = none → H' b = none)
    (there : ∀ b o, b ∉ ch → s.heap.get? b = some o → ∃ o', h'.get? b = some o')
    (tups : ∀ b xs, H b = some (.tup xs) → H' b = some (.tup xs)) (frzs : ∀ b o u, H b = some (.frz o u) → H' b = some (.frz o u)) (tbls : ∀ b ps, H b = some (.tbl ps) → ∃ more, H' b = some (.tbl (ps ++ more)))
    (ns : ∀ m, s.heap.Ns X.env.locals m → h'.Ns X.env.locals m) (hok : HOk X.prog X.w H' h') (hg : AllBare g') :
    Inv X pins σ H' { s with heap := h', gens := g', drawn := d', toks := t' } := by
  have neL : ∀ b o, X.s₀.heap.get? b = some o → b ≠ X.env.locals := fun b o e => Nat.ne_of_lt (Nat.lt_of_lt_of_le (Heap.lt_size e) I.ok.above)
  have neC : ∀ b o, X.s₀.heap.get? b = some o → b ∉ X.ex → b ∉ ch := fun b o e hx hb => by
    rcases (hch b hb).1 with z | z
    · exact hx z
    · exact absurd (Nat.lt_of_lt_of_le (Heap.lt_size e) z) (Nat.lt_irrefl _)
  have cellK : ∀ x c, X.env.cells.lookup x = some c → ∀ v, s.heap.IsCell c v → h'.IsCell c v := fun x c e v ⟨o, ho, hd⟩ => by
    have nch : c ∉ ch := fun z => (hch c z).2.2.1 x c e rfl
    by_cases hc : c ∈ X.fs
    · obtain ⟨sl, q⟩ := slot c o (I.cne x c e) hc nch ho (I.freeC x c e)
      exact ⟨_, q, hd⟩
    · exact ⟨o, keep c o (I.cne x c e) hc nch ho (I.freeC x c e), hd⟩
  refine ⟨I.ok, I.os, hg, ⟨fun b o e n hb hx => ?_, fun b o e n hb hx => ?_, fun b o e n hx => ?_, fun b o e hx => ?_, fun b xs e => tups b xs (I.base.tups b xs e), fun b o xs e => frzs b o xs (I.base.frzs b o xs e), fun b ps e => ?_⟩, ?_, fun x c e => ?_, ?_, fun x c e => ?_, fun p hp => ?_, hok, I.len⟩
  · exact keep b o (neL b o e) hb (neC b o e hx) (I.base.keep b o e n hb hx) (I.base.free b o e n hx)
  · obtain ⟨sl, e1⟩ := I.base.slot b o e n hb hx
    obtain ⟨sl', e2⟩ := slot b _ (neL b o e) hb (neC b o e hx) e1 (I.base.free b o e n hx)
    exact ⟨sl', e2⟩
  · obtain ⟨o', e1⟩ := I.base.there b o e hx
    exact free b o' (neC b o e hx) e1 (I.base.free b o e n hx)
  · obtain ⟨o', e1⟩ := I.base.there b o e hx
    exact there b o' (neC b o e hx) e1
  · obtain ⟨m1, e1⟩ := I.base.tbls b ps e
    obtain ⟨m2, e2⟩ := tbls b _ e1
    exact ⟨m1 ++ m2, by rw [e2, Array.append_assoc]⟩
  · obtain ⟨m, hn, hl⟩ := I.loc
    refine ⟨m, ns m hn, fun i x v e1 e2 e3 => ?_⟩
    obtain ⟨u, r, l⟩ := hl i x v e1 e2 e3
    refine ⟨u, r, ?_⟩
    rcases l with l | ⟨k, c, e, z⟩
    · exact .inl l
    · exact .inr ⟨k, c, e, cellK x c e _ z⟩
  · obtain ⟨v, z⟩ := I.cell x c e
    exact ⟨v, cellK x c e v z⟩
  · obtain ⟨m, ⟨o, _, _, ho, _⟩, _⟩ := I.loc
    exact free _ o (fun z => (hch _ z).2.1 rfl) ho I.free
  · obtain ⟨v, o, ho, hd⟩ := I.cell x c e
    exact free c o (fun z => (hch c z).2.2.1 x c e rfl) ho (I.freeC x c e)
  · obtain ⟨e, n, ne, nf, d⟩ := I.pin p hp
    have nch : p.1 ∉ ch := fun z => (hch p.1 z).2.2.2 p hp rfl
    exact ⟨keep p.1 p.2 ne nf nch e n, free p.1 p.2 nch e n, ne, nf, d⟩
theorem Inv.un {t' : Nat} (I : Inv X pins σ H s) (u : Un X.fs [] H H' s.heap h') (hok : HOk X.prog X.w H' h') : Inv X pins σ H' { s with heap := h', toks := t' } := by
  obtain ⟨m, ⟨o, es, ep, ho, r⟩, _⟩ := id I.loc
  obtain ⟨sl, hL⟩ := u.any ho I.free (by simp)
  exact I.step (g' := s.gens) (d' := s.drawn) (ch := []) (fun _ z => nomatch z) (fun b o _ hb _ e n => u.keep b o e n hb (by simp)) (fun b o _ hb _ e n => u.slot b o e n hb (by simp)) (fun b o _ e n => u.free b o e n (by simp)) (fun b o _ e => u.there b o e (by simp)) u.tups u.frzs u.tbls (fun m' hm => by
    obtain ⟨o', es', ep', ho', r'⟩ := hm
    rw [ho] at ho'; cases ho'
    exact ⟨_, es', ep', hL, r'⟩) hok I.bare
theorem Inv.call {g' : Array GenState} {t' : Nat} {d' : Drawn} {ch : List Addr} (I : Inv X pins σ H s) (u : Un (frs X.stack) ch H H' s.heap h') (hok : HOk X.prog X.w H' h') (hg : AllBare g')
    (hch : ∀ b ∈ ch, (b ∈ X.ex ∨ X.s₀.heap.objs.size ≤ b) ∧ b ≠ X.env.locals ∧ (∀ x c, X.env.cells.lookup x = some c → c ≠ b) ∧ ∀ p ∈ X.pn ++ pins, p.1 ≠ b) :
    Inv X pins σ H' { s with heap := h', gens := g', drawn := d', toks := t' } := by
  obtain ⟨m, ⟨o, es, ep, ho, r⟩, _⟩ := id I.loc
  obtain ⟨sl, hL⟩ := u.any ho I.free fun z => (hch _ z).2.1 rfl
  exact I.step (ch := ch) hch (fun b o hL hb hc e n => u.keep b o e n (fun z => (List.mem_cons.mp (I.stkSub b z)).elim hL hb) hc) (fun b o _ _ hc e n => u.any e n hc) (fun b o hc e n => u.free b o e n hc) (fun b o hc e => u.there b o e hc) u.tups u.frzs u.tbls (fun m' hm => by
    obtain ⟨o', es', ep', ho', r'⟩ := hm
    rw [ho] at ho'; cases ho'
    exact ⟨_, es', ep', hL, r'⟩) hok hg
theorem Inv.turned {t' : Nat} {it : Addr} (I : Inv X pins σ H s) (k : ∀ b o, b ≠ it → s.heap.get? b = some o → h'.get? b = some o) (hn : H it = none) (hL : it ≠ X.env.locals)
    (h1 : it ∈ X.ex ∨ X.s₀.heap.objs.size ≤ it) (h2 : ∀ x c, X.env.cells.lookup x = some c → c ≠ it) (h3 : ∀ p ∈ X.pn ++ pins, p.1 ≠ it) : Inv X pins σ H { s with heap := h', toks := t' } := by
  have nit : ∀ b u, H b = some u → b ≠ it := fun b u e z => by rw [z, hn] at e; cases e
  refine I.step (g' := s.gens) (d' := s.drawn) (ch := [it]) (fun b hb => ?_) (fun b o _ _ hc e _ => k b o (fun z => hc (by simp [z])) e) (fun b o _ _ hc e _ => ⟨o.slots, k b o (fun z => hc (by simp [z])) e⟩) (fun _ _ _ _ n => n)
    (fun b o hc e => ⟨o, k b o (fun z => hc (by simp [z])) e⟩) (fun _ _ e => e) (fun _ _ _ e => e) (fun b ps e => ⟨#[], by rw [e]; simp⟩) (fun m hm => ?_) (fun b u e => ?_) I.bare
  · have e : b = it := by simpa using hb
    subst e
    exact ⟨h1, hL, h2, h3⟩
  · obtain ⟨o, es, ep, ho, r⟩ := hm
    exact ⟨o, es, ep, k _ o (Ne.symm hL) ho, r⟩
  · refine (I.hok b u e).stay (fun c v hc q => k c v ?_ q) (fun _ q => q) fun _ _ q => q
    rcases hc with z | z
    · rw [z]; exact nit b u e
    · exact nit c _ z
theorem Inv.tok (I : Inv X pins σ H s) (t : Nat) : Inv X pins σ H { s with toks := t } := I.un (h' := s.heap) (t' := t) Un.refl I.hok
theorem Inv.kept {t' : Nat} (I : Inv X pins σ H s) (k : ∀ b u, s.heap.get? b = some u → h'.get? b = some u) : Inv X pins σ H { s with heap := h', toks := t' } := I.un (Un.kept k) (I.hok.kept k)
theorem Inv.laid {a : Addr} {o : HO} {t' : Nat} (I : Inv X pins σ H s) (k : ∀ b u, s.heap.get? b = some u → h'.get? b = some u) (hp : s.heap.objs.size ≤ a) (new : ObjOk X.prog X.w (upd H a o) h' a o) :
    Inv X pins σ (upd H a o) { s with heap := h', toks := t' } := I.un (Un.laid k hp (I.hok.fresh hp)) (I.hok.laid k hp new)
theorem Inv.write {x e : Addr} {o : HO} {t' : Nat} (I : Inv X pins σ H s) (mu : Mut (H x)) (he : e = x ∨ H e = some (.own x)) (k : ∀ b u, b ≠ e → s.heap.get? b = some u → h'.get? b = some u) (heo : ∃ u, h'.get? e = some u)
    (new : ObjOk X.prog X.w (upd H x o) h' x o) : Inv X pins σ (upd H x o) { s with heap := h', toks := t' } := I.un (Un.write mu he k heo) (I.hok.write mu he k heo new)
theorem Inv.weak {σ' : List (Option V)} (I : Inv X pins σ H s) (hl : σ'.length = σ.length) (w : ∀ (i : Nat) v, σ'[i]? = some (some v) → σ[i]? = some (some v)) : Inv X pins σ' H s :=
  ⟨I.ok, I.os, I.bare, I.base, let ⟨m, hn, hl'⟩ := I.loc; ⟨m, hn, fun i x v e1 e2 e3 => hl' i x v e1 (w i v e2) e3⟩, I.cell, I.free, I.freeC, I.pin, I.hok, hl.trans I.len⟩
theorem Inv.pins_of {pins' : List (Addr × Obj)} (I : Inv X pins σ H s) (h : ∀ p ∈ pins', s.heap.get? p.1 = some p.2 ∧ H p.1 = none ∧ p.1 ≠ X.env.locals ∧ p.1 ∉ X.fs ∧ ∀ v, p.2.data ≠ .cell v) : Inv X pins' σ H s :=
  ⟨I.ok, I.os, I.bare, I.base, I.loc, I.cell, I.free, I.freeC, fun p hp => (List.mem_append.mp hp).elim (fun z => I.pin p (List.mem_append_left _ z)) (h p), I.hok, I.len⟩

theorem nodup_ix {N : List Str} (hN : N.Nodup) {i j : Nat} {x : Str} (a : N[i]? = some x) (b : N[j]? = some x) : i = j := by
  obtain ⟨h1, e1⟩ := List.getElem?_eq_some_iff.mp a
  obtain ⟨h2, e2⟩ := List.getElem?_eq_some_iff.mp b
  exact (List.getElem_inj hN).mp (e1.trans e2.symm)

theorem store_ok2 {M : Model} {A : Around} {E : Value → Shared → Prop} {i : Nat} {x : Str} {v : V} {u : Value} {Q : Unit → Shared → Prop} (I : Inv X pins σ H s) (hN : X.N.Nodup) (hi : X.N[i]? = some x) (hx : Loc X.env.scope x) (r : RelV v u)
    (h : ∀ s', Inv X pins (σ.set i (some v)) H s' → (∃ a, Heap.SameBut a s.heap s'.heap ∧ (a = X.env.locals ∨ X.env.cells.lookup x = some a)) → Q () s') (hf : X.fn x = true ∨ X.env.scope.names.lookup x = some .local := by first | exact .inl rfl | exact .inr rfl | assumption) : wpAny M A (storeName X.env x u) Q E s := by
  obtain ⟨m, hn, hl⟩ := id I.loc
  have hcls : (X.env.scope.kind == .class || (X.env.scope.kind == .module && X.env.locals != X.env.globals)) = false := by rw [I.ok.kind]; rfl
  have hiσ : i < σ.length := by rw [I.len]; exact (List.getElem?_eq_some_iff.mp hi).1
  have cne := I.cne
  have tracked : ∀ {a : Addr} {h' : Heap}, (∃ o, s.heap.get? a = some o ∧ H a = none) → Heap.SameBut a s.heap h' → HOk X.prog X.w H h' := fun {a h'} ha hs b ob e => by
    obtain ⟨_, _, hfree⟩ := ha
    refine (I.hok b ob e).stay (fun c w' hc q => (hs.2 c ?_).trans q) (fun _ q => q) fun _ _ q => q
    rintro rfl
    rcases hc with rfl | hc
    · rw [hfree] at e; cases e
    · rw [hfree] at hc; cases hc
  rcases hx with hk | hk
  · refine wpAny_storeName_local hk hn (fun h' hn' hs => ?_) hcls
    obtain ⟨oL, _, _, hoL, _⟩ := id hn
    refine h _ ⟨I.ok, I.os, I.bare, ⟨fun b o e n hb hx => ?_, fun b o e n hb hx => ?_, I.base.free, fun b o e hx => ?_, I.base.tups, I.base.frzs, I.base.tbls⟩, ⟨_, hn', fun j y v' e1 e2 e3 => ?_⟩, fun y c e => ?_, I.free, I.freeC, fun p hp => ?_, tracked ⟨oL, hoL, I.free⟩ hs, by simpa using I.len⟩ ⟨_, hs, .inl rfl⟩
    · exact (hs.2 b (Nat.ne_of_lt (Nat.lt_of_lt_of_le (Heap.lt_size e) I.ok.above))).trans (I.base.keep b o e n hb hx)
    · obtain ⟨sl, e1⟩ := I.base.slot b o e n hb hx
      exact ⟨sl, (hs.2 b (Nat.ne_of_lt (Nat.lt_of_lt_of_le (Heap.lt_size e) I.ok.above))).trans e1⟩
    · obtain ⟨o', e1⟩ := I.base.there b o e hx
      exact ⟨o', (hs.2 b (Nat.ne_of_lt (Nat.lt_of_lt_of_le (Heap.lt_size e) I.ok.above))).trans e1⟩
    · by_cases hj : j = i
      · subst hj
        rw [hi] at e1; cases e1
        rw [List.getElem?_set_self hiσ] at e2
        cases e2
        exact ⟨u, r, .inl ⟨hk, by simp⟩⟩
      · rw [List.getElem?_set_ne (Ne.symm hj)] at e2
        obtain ⟨u', r', q⟩ := hl j y v' e1 e2 e3
        refine ⟨u', r', ?_⟩
        rcases q with ⟨k, e⟩ | ⟨k, c, e, z⟩
        · refine .inl ⟨k, ?_⟩
          have : y ≠ x := fun e => hj (nodup_ix hN e1 (e ▸ hi))
          simp [this, e]
        · exact .inr ⟨k, c, e, z.sameBut hs (cne y c e)⟩
    · obtain ⟨w', z⟩ := I.cell y c e
      exact ⟨w', z.sameBut hs (cne y c e)⟩
    · obtain ⟨e, n, ne, nf, d⟩ := I.pin p hp
      exact ⟨(hs.2 p.1 ne).trans e, n, ne, nf, d⟩
  · have hfn : X.fn x = true := by
      rcases hf with z | z
      · exact z
      · rw [z] at hk; cases hk
    obtain ⟨c, hc⟩ := I.ok.has x (.inl hk)
    obtain ⟨w', z⟩ := I.cell x c hc
    refine wpAny_storeName_cell I.ok.kind hk hc z (fun h' hc' hs => ?_)
    obtain ⟨oc, hoc, hocd⟩ := id z
    refine h { s with heap := h' } ⟨I.ok, I.os, I.bare, ⟨fun b o e n hb hx => ?_, fun b o e n hb hx => ?_, I.base.free, fun b o e hx => ?_, I.base.tups, I.base.frzs, I.base.tbls⟩, ⟨m, hn.sameBut hs (Ne.symm (cne x c hc)), fun j y v' e1 e2 e3 => ?_⟩, fun y c' e => ?_, I.free, I.freeC, fun p hp => ?_, tracked ⟨oc, hoc, I.freeC x c hc⟩ hs, by simpa using I.len⟩ ⟨c, hs, .inr hc⟩
    · exact (hs.2 b (Nat.ne_of_lt (Nat.lt_of_lt_of_le (Heap.lt_size e) (I.ok.cab x c hfn hc)))).trans (I.base.keep b o e n hb hx)
    · obtain ⟨sl, e1⟩ := I.base.slot b o e n hb hx
      exact ⟨sl, (hs.2 b (Nat.ne_of_lt (Nat.lt_of_lt_of_le (Heap.lt_size e) (I.ok.cab x c hfn hc)))).trans e1⟩
    · obtain ⟨o', e1⟩ := I.base.there b o e hx
      exact ⟨o', (hs.2 b (Nat.ne_of_lt (Nat.lt_of_lt_of_le (Heap.lt_size e) (I.ok.cab x c hfn hc)))).trans e1⟩
    · by_cases hj : j = i
      · subst hj
        rw [hi] at e1; cases e1
        rw [List.getElem?_set_self hiσ] at e2
        cases e2
        exact ⟨u, r, .inr ⟨.inl hk, c, hc, hc'⟩⟩
      · rw [List.getElem?_set_ne (Ne.symm hj)] at e2
        obtain ⟨u', r', q⟩ := hl j y v' e1 e2 e3
        refine ⟨u', r', ?_⟩
        rcases q with q | ⟨k, c', e, z'⟩
        · exact .inl q
        · refine .inr ⟨k, c', e, z'.sameBut hs ?_⟩
          rintro rfl
          exact hj (nodup_ix hN e1 (I.ok.inj _ _ _ e hc ▸ hi))
    · by_cases hcc : c' = c
      · subst hcc; exact ⟨_, hc'⟩
      · obtain ⟨w2, z2⟩ := I.cell y c' e
        exact ⟨w2, z2.sameBut hs hcc⟩
    · obtain ⟨e, n, ne, nf, d⟩ := I.pin p hp
      refine ⟨(hs.2 p.1 ?_).trans e, n, ne, nf, d⟩
      intro q
      rw [q, hoc] at e
      have q' : oc = p.2 := Option.some.inj e
      exact d w' (by rw [← q']; exact hocd)
theorem store_ok {M : Model} {A : Around} {E : Value → Shared → Prop} {i : Nat} {x : Str} {v : V} {u : Value} {Q : Unit → Shared → Prop} (I : Inv X pins σ H s) (hN : X.N.Nodup) (hi : X.N[i]? = some x) (hx : Loc X.env.scope x) (r : RelV v u)
    (h : ∀ s', Inv X pins (σ.set i (some v)) H s' → Q () s') (hf : X.fn x = true ∨ X.env.scope.names.lookup x = some .local := by first | exact .inl rfl | exact .inr rfl | assumption) : wpAny M A (storeName X.env x u) Q E s :=
  store_ok2 I hN hi hx r (fun s' I' _ => h s' I') hf
theorem Inv.call' {s' : Shared} {ch : List Addr} (I : Inv X pins σ H s) (ho : s'.os = s.os) (u : Un (frs X.stack) ch H H' s.heap s'.heap) (hok : HOk X.prog X.w H' s'.heap) (hg : AllBare s'.gens)
    (hch : ∀ b ∈ ch, (b ∈ X.ex ∨ X.s₀.heap.objs.size ≤ b) ∧ b ≠ X.env.locals ∧ (∀ x c, X.env.cells.lookup x = some c → c ≠ b) ∧ ∀ p ∈ X.pn ++ pins, p.1 ≠ b) : Inv X pins σ H' s' := by
  obtain ⟨h', g', d', t', o'⟩ := s'
  have e : o' = s.os := ho
  subst e
  exact I.call (g' := g') (t' := t') (d' := d') u hok hg hch
end
abbrev XK := Value → Option Addr → Hp → Prop
abbrev St := List (Option V)
abbrev VK := V → Hp → Prop
abbrev TE := St → Hp → VK → Prop
abbrev TT := St → Hp → (Bool → Hp → Prop) → Prop
abbrev TA := St → Hp → (List V → Hp → Prop) → Prop
structure Ends where
  nx : St → Hp → Prop
  rt : VK
  bk : St → Hp → Prop := fun _ _ => False
  ct : St → Hp → Prop := fun _ _ => False
abbrev TS := Ends → St → Hp → Prop

def EP (X : Cx) (pins : List (Addr × Obj)) (σ : St) (Q : VK) (u : Value) (s' : Shared) : Prop := ∃ v H', Inv X pins σ H' s' ∧ RelV v u ∧ Q v H'
def TP (X : Cx) (pins : List (Addr × Obj)) (σ : St) (Q : Bool → Hp → Prop) (b : Bool) (s' : Shared) : Prop := ∃ H', Inv X pins σ H' s' ∧ Q b H'
def AP (X : Cx) (pins : List (Addr × Obj)) (σ : St) (Q : List V → Hp → Prop) (us : List Value) (s' : Shared) : Prop := ∃ vs H', Inv X pins σ H' s' ∧ Vals vs us ∧ Q vs H'
def SP (X : Cx) (pins : List (Addr × Obj)) (D : Ends) (f : Flow) (s' : Shared) : Prop :=
  match f with
  | .next => ∃ σ' H', Inv X pins σ' H' s' ∧ D.nx σ' H'
  | .brk => ∃ σ' H', Inv X pins σ' H' s' ∧ D.bk σ' H'
  | .cont => ∃ σ' H', Inv X pins σ' H' s' ∧ D.ct σ' H'
  | .ret u => ∃ v σ' H', Inv X pins σ' H' s' ∧ RelV v u ∧ D.rt v H'

def PE (X : Cx) (e : Expr) (t : TE) : Prop :=
  ∀ (pins : List (Addr × Obj)) (s : Shared) (σ : St) (H : Hp) (Q : VK), Inv X pins σ H s → t σ H Q → wpAny (model X.prog X.w) X.A (eval e X.env) (EP X pins σ Q) X.xe s
def PT (X : Cx) (e : Expr) (t : TT) : Prop :=
  ∀ (pins : List (Addr × Obj)) (s : Shared) (σ : St) (H : Hp) (Q : Bool → Hp → Prop), Inv X pins σ H s → t σ H Q → wpAny (model X.prog X.w) X.A (isTrue e X.env (eval e X.env)) (TP X pins σ Q) X.xe s
def PW (X : Cx) (e : Expr) (t : TT) : Prop :=
  ∀ (whole : Sem Value) (pins : List (Addr × Obj)) (s : Shared) (σ : St) (H : Hp) (Q : Bool → Hp → Prop), Inv X pins σ H s → t σ H Q → wpAny (model X.prog X.w) X.A (isTrue e X.env whole) (TP X pins σ Q) X.xe s
theorem PW.pt {X : Cx} {e : Expr} {t : TT} (h : PW X e t) : PT X e t := h _
def PA (X : Cx) (es : List Expr) (t : TA) : Prop :=
  ∀ (pos : Pos) (pins : List (Addr × Obj)) (s : Shared) (σ : St) (H : Hp) (Q : List V → Hp → Prop), Inv X pins σ H s → t σ H Q → wpAny (model X.prog X.w) X.A (spliced (backTo pos (starEach es X.env))) (AP X pins σ Q) X.xe s
def PS (X : Cx) (st : Stmt) (t : TS) : Prop :=
  ∀ (pins : List (Addr × Obj)) (s : Shared) (σ : St) (H : Hp) (D : Ends), Inv X pins σ H s → t D σ H → wpAny (model X.prog X.w) X.A (exec st X.env) (SP X pins D) X.xe s
def PSs (X : Cx) (st : List Stmt) (t : TS) : Prop :=
  ∀ (pins : List (Addr × Obj)) (s : Shared) (σ : St) (H : Hp) (D : Ends), Inv X pins σ H s → t D σ H → wpAny (model X.prog X.w) X.A (execs st X.env) (SP X pins D) X.xe s
theorem thn {α : Type} {t : Sem α} {Q Q' : α → Shared → Prop} {M : Model} {A : Around} {E : Value → Shared → Prop} {s : Shared} (h : wpAny M A t Q E s) (hQ : ∀ a s, Q a s → Q' a s) : wpAny M A t Q' E s := wpAny_mono h hQ fun _ _ x => x
end L2
namespace L2
open PySem PySem.Spec PyProof.Rows
section
variable {X : Cx}
def tVar (i : Nat) : TE := fun σ H Q => ∃ v, σ[i]? = some (some v) ∧ Q v H
def tC (v : V) : TE := fun _ H Q => Q v H
theorem pe_var {i : Nat} {x : Str} {pos : Pos} (hN : X.N[i]? = some x) (hv : Vis X.env.scope x) (hd : (x == ("__debug__" : Str)) = false := by decide) (hcd : (x == ("__classdict__" : Str)) = false := by decide) : PE X (.Name x pos) (tVar i) := by
  intro pins s σ H Q I h
  obtain ⟨v, e, h⟩ := h
  obtain ⟨m, hn, hl⟩ := I.loc
  obtain ⟨u, r, l⟩ := hl i x v hN e hv
  have fin : EP X pins σ Q u s := ⟨v, H, I, r, h⟩
  rcases l with ⟨hk, hm⟩ | ⟨hk, c, hc, hcell⟩
  · exact wpAny_Name (wpAny_loadName_local I.ok.kind hk hn hm fin) hd
  · rcases hk with hk | hk
    · exact wpAny_Name (wpAny_loadName_cell I.ok.kind hk hc hcell fin) hd
    · exact wpAny_Name (wpAny_loadName_free I.ok.kind hk hc hcell fin hcd) hd
theorem pe_int {i j pos} : PE X (.Constant (.int i) j pos) (tC (.int i)) := fun _ _ _ H _ I h => wpAny_Constant_int ⟨.int i, H, I.tok _, ⟨_, rfl⟩, h⟩
theorem pe_bl {b j pos} : PE X (.Constant (.bool b) j pos) (tC (.bl b)) := fun _ _ _ H _ I h => Constant_bool ⟨.bl b, H, I, rfl, h⟩
theorem pe_non {j pos} : PE X (.Constant .none j pos) (tC .non) := fun _ _ _ H _ I h => Constant_none ⟨.non, H, I, rfl, h⟩
theorem pe_str {x j pos} : PE X (.Constant (.str x) j pos) (tC (.str x)) := fun _ _ _ H _ I h => Calls.Constant_str ⟨.str x, H, I.tok _, ⟨_, rfl⟩, h⟩

def Gl (X : Cx) (x : Str) : Prop := X.env.kindOf x = some .globalImplicit
theorem ld_glob {E : Value → Shared → Prop} {pins : List (Addr × Obj)} {s : Shared} {σ : St} {H : Hp} {x : Str} {u : Value} {pos : Pos} {Q : Value → Shared → Prop} (I : Inv X pins σ H s) (hg : Gl X x) (hm : X.mg x = some u) (h : Q u s)
    (hd : (x == ("__debug__" : Str)) = false := by decide) : wpAny (model X.prog X.w) X.A (eval (.Name x pos) X.env) Q E s :=
  Calls.Name_function_global I.ok.kind hg (Calls.loadGlobal_global (by rw [I.ok.glob]; exact I.mod.glob.keeps I.bk) hm h) hd
theorem ld_blt {E : Value → Shared → Prop} {pins : List (Addr × Obj)} {s : Shared} {σ : St} {H : Hp} {x : Str} {u : Value} {pos : Pos} {Q : Value → Shared → Prop} (I : Inv X pins σ H s) (hg : Gl X x) (hm : X.mg x = none) (hv : bootBuiltins x = some u) (h : Q u s)
    (hn : x ≠ "__name__" := by decide) (hd : (x == ("__debug__" : Str)) = false := by decide) : wpAny (model X.prog X.w) X.A (eval (.Name x pos) X.env) Q E s := by
  obtain ⟨mb, h1, h2⟩ := I.mod.blt
  exact Calls.Name_function_global I.ok.kind hg (Calls.loadGlobal_builtin (by rw [I.ok.glob]; exact I.mod.glob.keeps I.bk) hm (by rw [I.ok.blt]; exact h1.keeps I.bk) ((h2 x hn).trans hv) h) hd
theorem pe_glob {x : Str} {v : V} {u : Value} {pos : Pos} (hg : Gl X x) (hm : X.mg x = some u) (r : RelV v u) (hd : (x == ("__debug__" : Str)) = false := by decide) : PE X (.Name x pos) (tC v) :=
  fun _ _ _ H _ I h => ld_glob I hg hm ⟨v, H, I, r, h⟩ hd
theorem pe_bltn {x : Str} {v : V} {u : Value} {pos : Pos} (hg : Gl X x) (hm : X.mg x = none) (hv : bootBuiltins x = some u) (r : RelV v u) (hn : x ≠ "__name__" := by decide) (hd : (x == ("__debug__" : Str)) = false := by decide) : PE X (.Name x pos) (tC v) :=
  fun _ _ _ H _ I h => ld_blt I hg hm hv ⟨v, H, I, r, h⟩ hn hd

variable {a b : Expr} {ta tb : TE} {pos : Pos}
def tB (t : TE) : TT := fun σ H Q => t σ H fun x H1 => ∃ c, x = .bl c ∧ Q c H1
theorem pt_val {e : Expr} {t : TE} (h : PE X e t) (he : ∀ whole, isTrue e X.env whole = (do let v ← whole; standAt e.pos; holding [v] (truthy v)) := by intro _; rfl) : PT X e (tB t) := by
  intro pins s σ H Q I hw
  refine isTrue_plain (thn (h pins s σ H _ I hw) fun v s1 ⟨x, H1, I1, r1, q1⟩ => ?_) (he _)
  obtain ⟨d, rfl, q⟩ := q1
  cases r1
  exact wpAny_truthy_bool ⟨H1, I1, q⟩

variable {tA tB' : TT} {rest : List Expr}
def tAnd (t u : TT) : TT := fun σ H Q => t σ H fun c H1 => if c = true then u σ H1 Q else Q false H1
def tOr (t u : TT) : TT := fun σ H Q => t σ H fun c H1 => if c = true then Q true H1 else u σ H1 Q
def tNot (t : TT) : TT := fun σ H Q => t σ H fun c H1 => Q (!c) H1
theorem pw_and1 (ha : PT X a tA) : PW X (.BoolOp .And [a] pos) tA := by
  intro wh pins s σ H Q I h
  refine isTrue_and (thn (ha pins s σ H Q I h) fun c s1 e => ?_)
  cases c with
  | true => exact isTrue_and_nil e
  | false => exact e
theorem pw_or1 (ha : PT X a tA) : PW X (.BoolOp .Or [a] pos) tA := by
  intro wh pins s σ H Q I h
  refine isTrue_or (thn (ha pins s σ H Q I h) fun c s1 e => ?_)
  cases c with
  | false => exact isTrue_or_nil e
  | true => exact e
theorem pw_and (ha : PT X a tA) (hb : PW X (.BoolOp .And (b :: rest) pos) tB') : PW X (.BoolOp .And (a :: b :: rest) pos) (tAnd tA tB') := by
  intro wh pins s σ H Q I h
  refine isTrue_and (thn (ha pins s σ H _ I h) fun c s1 ⟨H1, I1, q1⟩ => ?_)
  cases c with
  | true => exact hb wh pins s1 σ H1 Q I1 q1
  | false => exact ⟨H1, I1, q1⟩
theorem pw_or (ha : PT X a tA) (hb : PW X (.BoolOp .Or (b :: rest) pos) tB') : PW X (.BoolOp .Or (a :: b :: rest) pos) (tOr tA tB') := by
  intro wh pins s σ H Q I h
  refine isTrue_or (thn (ha pins s σ H _ I h) fun c s1 ⟨H1, I1, q1⟩ => ?_)
  cases c with
  | true => exact ⟨H1, I1, q1⟩
  | false => exact hb wh pins s1 σ H1 Q I1 q1
theorem pt_not (ha : PT X a tA) : PT X (.UnaryOp .Not a pos) (tNot tA) := by
  intro pins s σ H Q I h
  exact isTrue_not (ha pins s σ H (fun c H1 => Q (!c) H1) I h)
def tAndV (ta tb : TE) : TE := fun σ H Q => ta σ H fun x H1 => ∃ c, x = .bl c ∧ if c = true then tb σ H1 Q else Q (.bl false) H1
def tNotV (ta : TE) : TE := fun σ H Q => ta σ H fun x H1 => ∃ c, x = .bl c ∧ Q (.bl (!c)) H1
theorem pe_one {op} {t : TE} (h : PE X a t) : PE X (.BoolOp op [a] pos) t := fun pins s σ H Q I hw => BoolOp_one (h pins s σ H Q I hw)
theorem pe_and (ha : PE X a ta) (hb : PE X (.BoolOp .And (b :: rest) pos) tb) : PE X (.BoolOp .And (a :: b :: rest) pos) (tAndV ta tb) := by
  intro pins s σ H Q I h
  refine BoolOp_and (thn (ha pins s σ H _ I h) fun v s1 ⟨x, H1, I1, r1, q1⟩ => ?_)
  obtain ⟨c, rfl, q1⟩ := q1
  cases r1
  refine wpAny_truthy_bool ?_
  cases c with
  | true => exact hb pins s1 σ H1 Q I1 q1
  | false => exact ⟨.bl false, H1, I1, rfl, q1⟩
theorem pe_not (ha : PE X a ta) : PE X (.UnaryOp .Not a pos) (tNotV ta) := by
  intro pins s σ H Q I h
  refine UnaryOp_ (thn (ha pins s σ H _ I h) fun v s1 ⟨x, H1, I1, r1, q1⟩ => ?_)
  obtain ⟨c, rfl, q1⟩ := q1
  cases r1
  exact not_of (wpAny_truthy_bool ⟨.bl (!c), H1, I1, rfl, q1⟩)
def tIf (t : TT) (ta tb : TE) : TE := fun σ H Q => t σ H fun c H1 => if c = true then ta σ H1 Q else tb σ H1 Q
theorem pe_ifExp {c : Expr} (hc : PT X c tA) (ha : PE X a ta) (hb : PE X b tb) : PE X (.IfExp c a b pos) (tIf tA ta tb) := by
  intro pins s σ H Q I h
  refine wpAny_IfExp (thn (hc pins s σ H _ I h) fun d s1 ⟨H1, I1, q1⟩ => ?_)
  cases d with
  | true => exact ha pins s1 σ H1 Q I1 q1
  | false => exact hb pins s1 σ H1 Q I1 q1
end
end L2
namespace L2
open PySem PySem.Spec PyProof.Rows
def SqL (K : PySem.W.Frag) (H : Hp) (a : Addr) (xs : List V) : Prop :=
  Rd H a (.lst xs) ∨
    ∃ (o : Obj) (its : Array Value) (n : Nat), K.lookup a = some o ∧ o.cls = .type "list" ∧ o.dict = none ∧ o.data = .seq its n ∧ its.size ≤ sizeLine ∧ Vals xs its.toList
def SqT (K : PySem.W.Frag) (H : Hp) (a : Addr) (xs : List V) : Prop :=
  Rd H a (.tup xs) ∨
    ∃ (o : Obj) (its : Array Value) (n : Nat), K.lookup a = some o ∧ o.cls = .type "tuple" ∧ o.data = .seq its n ∧ its.size ≤ sizeLine ∧ Vals xs its.toList
def absV : Value → Option V
  | .none => some .non
  | .bool b => some (.bl b)
  | .int i _ => some (.int i)
  | .str x _ => some (.str x)
  | .bytes b _ => some (.byt b)
  | .float b _ => some (.flt b)
  | .ref a => some (.ref a)
  | .type n => some (.ty n)
  | _ => none
theorem RelV.abs {x : V} {u : Value} (r : RelV x u) : absV u = some x := by
  cases x with
  | non => cases r; rfl
  | bl _ => cases r; rfl
  | int _ => obtain ⟨t, rfl⟩ := r; rfl
  | str _ => obtain ⟨t, rfl⟩ := r; rfl
  | byt _ => obtain ⟨t, rfl⟩ := r; rfl
  | flt _ => obtain ⟨t, rfl⟩ := r; rfl
  | ref _ => cases r; rfl
  | ty _ => cases r; rfl
theorem RelV.inj {x y : V} {u : Value} (r : RelV x u) (q : RelV y u) : x = y := Option.some.inj (r.abs.symm.trans q.abs)
theorem Vals.inj : ∀ {xs ys : List V} {us : List Value}, Vals xs us → Vals ys us → xs = ys
  | _, _, _, .nil, .nil => rfl
  | _, _, _, .cons r t, .cons r' t' => by rw [r.inj r', Vals.inj t t']
section
variable {X : Cx} {pins : List (Addr × Obj)} {σ : St} {H : Hp} {s : Shared} {a : Addr} {xs ys : List V}
theorem SqL.of {K : PySem.W.Frag} (h : H a = some (.lst xs)) : SqL K H a xs := .inl (.inl h)
theorem Inv.list (I : Inv X pins σ H s) (h : SqL X.K H a xs) : ∃ its : List Value, Vals xs its ∧ PlainL s.heap a its.toArray ∧ xs.length ≤ sizeLine := by
  rcases h with h | ⟨o, its, n, hk, hc, hd, hs, hz, r⟩
  · obtain ⟨z, its, n, r, e⟩ := h.ok I.hok
    exact ⟨its, r, ⟨_, n, e, rfl, rfl, rfl⟩, z⟩
  · refine ⟨its.toList, r, ⟨o, n, I.kIn a o hk, hc, hd, by simpa using hs⟩, ?_⟩
    have e := r.length
    simp only [Array.length_toList] at e
    omega
theorem Inv.tuple (I : Inv X pins σ H s) (h : SqT X.K H a xs) : ∃ its : List Value, Vals xs its ∧ IsTup s.heap a its.toArray ∧ xs.length ≤ sizeLine := by
  rcases h with h | ⟨o, its, n, hk, hc, hs, hz, r⟩
  · obtain ⟨z, its, r, p⟩ := h.ok I.hok
    exact ⟨its, r, p, z⟩
  · refine ⟨its.toList, r, ⟨o, I.kIn a o hk, hc, n, by simpa using hs⟩, ?_⟩
    have e := r.length
    simp only [Array.length_toList] at e
    omega
theorem Inv.list_inj (I : Inv X pins σ H s) (h : SqL X.K H a xs) (h' : SqL X.K H a ys) : xs = ys := by
  obtain ⟨its, r, ⟨o, n, e, _, _, d⟩, _⟩ := I.list h
  obtain ⟨its', r', ⟨o', n', e', _, _, d'⟩, _⟩ := I.list h'
  rw [e] at e'; cases e'
  rw [d] at d'
  injection d' with d1 _
  have : its = its' := by simpa using congrArg Array.toList d1
  subst this
  exact r.inj r'
theorem Inv.tuple_inj (I : Inv X pins σ H s) (h : SqT X.K H a xs) (h' : SqT X.K H a ys) : xs = ys := by
  obtain ⟨its, r, ⟨o, e, _, n, d⟩, _⟩ := I.tuple h
  obtain ⟨its', r', ⟨o', e', _, n', d'⟩, _⟩ := I.tuple h'
  rw [e] at e'; cases e'
  rw [d] at d'
  injection d' with d1 _
  have : its = its' := by simpa using congrArg Array.toList d1
  subst this
  exact r.inj r'
end
abbrev Cx.wish (X : Cx) (E : Value → Shared → Prop) : Cx := { X with xe := E }
abbrev Cx.nox (X : Cx) : Cx := X.wish fun _ _ => False
theorem Cx.Ok.wish {X : Cx} (ok : X.Ok) (E : Value → Shared → Prop) : (X.wish E).Ok :=
  ⟨ok.mod, ok.kind, ok.glob, ok.blt, ok.above, ok.inj, ok.has, ok.cab, ok.hd, ok.frames, ok.stk, ok.exf, ok.bs, ok.bsz, ok.noex, ok.exfs, ok.funs, ok.frf⟩
theorem Cx.Ok.unwish {X : Cx} {E : Value → Shared → Prop} (ok : (X.wish E).Ok) : X.Ok :=
  ⟨ok.mod, ok.kind, ok.glob, ok.blt, ok.above, ok.inj, ok.has, ok.cab, ok.hd, ok.frames, ok.stk, ok.exf, ok.bs, ok.bsz, ok.noex, ok.exfs, ok.funs, ok.frf⟩
section
variable {X : Cx} {pins : List (Addr × Obj)} {σ : St} {H : Hp} {s : Shared} {E : Value → Shared → Prop}
theorem Inv.wish (I : Inv X pins σ H s) (E : Value → Shared → Prop) : Inv (X.wish E) pins σ H s := ⟨I.ok.wish E, I.os, I.bare, I.base, I.loc, I.cell, I.free, I.freeC, I.pin, I.hok, I.len⟩
theorem Inv.unwish (I : Inv (X.wish E) pins σ H s) : Inv X pins σ H s := ⟨I.ok.unwish, I.os, I.bare, I.base, I.loc, I.cell, I.free, I.freeC, I.pin, I.hok, I.len⟩
theorem SP.unwish {D : Ends} {f : Flow} {s' : Shared} (h : SP (X.wish E) pins D f s') : SP X pins D f s' := by
  cases f with
  | next => obtain ⟨σ', H', I, q⟩ := h; exact ⟨σ', H', I.unwish, q⟩
  | brk => obtain ⟨σ', H', I, q⟩ := h; exact ⟨σ', H', I.unwish, q⟩
  | cont => obtain ⟨σ', H', I, q⟩ := h; exact ⟨σ', H', I.unwish, q⟩
  | ret u => obtain ⟨v, σ', H', I, r, q⟩ := h; exact ⟨v, σ', H', I.unwish, r, q⟩
theorem PSs.nox {st : List Stmt} {t : TS} (h : PSs X.nox st t) : PSs X st t := fun pins s σ H D I hw =>
  wpAny_mono (h pins s σ H D (I.wish _) hw) (fun _ _ q => q.unwish) fun _ _ z => False.elim z
end
section
variable {X : Cx} {st : Stmt} {rest : List Stmt} {t u : TS} {e : Expr} {te : TE} {pos : Pos}
def tNext : TS := fun D σ H => D.nx σ H
def tSeq (t u : TS) : TS := fun D σ H => t { D with nx := u D } σ H
theorem pss_nil : PSs X [] tNext := fun _ _ σ H _ I h => wpAny_execs_nil ⟨σ, H, I, h⟩
theorem pss_cons (h1 : PS X st t) (h2 : PSs X rest u) : PSs X (st :: rest) (tSeq t u) := by
  intro pins s σ H D I h
  refine wpAny_execs_cons (thn (h1 pins s σ H { D with nx := u D } I h) fun f s1 q => ?_)
  cases f with
  | next =>
    obtain ⟨σ', H', I', q⟩ := q
    exact h2 pins s1 σ' H' D I' q
  | ret v => exact q
  | brk => exact q
  | cont => exact q
theorem pss_one (h1 : PS X st t) : PSs X [st] t := by
  intro pins s σ H D I h
  refine wpAny_execs_cons (thn (h1 pins s σ H D I h) fun f s1 q => ?_)
  cases f with
  | next => exact wpAny_execs_nil q
  | ret v => exact q
  | brk => exact q
  | cont => exact q
theorem Inv.quiet {pins : List (Addr × Obj)} {σ : St} {H : Hp} {s : Shared} (I : Inv X pins σ H s) : interactive X.env = false := by simp [interactive, I.ok.kind]
def tDrop (te : TE) : TS := fun D σ H => te σ H fun _ H1 => D.nx σ H1
theorem ps_expr (he : PE X e te) (hs : swapsWith e none pos.line X.env = pure false := by rfl) : PS X (.Expr e pos) (tDrop te) := by
  intro pins s σ H D I h
  exact wpAny_Expr_any (thn (he pins s σ H _ I h) fun v s1 ⟨x, H1, I1, r1, q1⟩ => ⟨σ, H1, I1, q1⟩) I.quiet hs
def tRet (te : TE) : TS := fun D σ H => te σ H D.rt
theorem ps_ret (he : PE X e te) : PS X (.Return (some e) pos) (tRet te) := by
  intro pins s σ H D I h
  exact wpAny_Return_some (thn (he pins s σ H _ I h) fun v s1 ⟨x, H1, I1, r1, q1⟩ => ⟨x, σ, H1, I1, r1, q1⟩)
def tIfS (c : TT) (t u : TS) : TS := fun D σ H => c σ H fun b H1 => if b = true then t D σ H1 else u D σ H1
theorem ps_if {c : Expr} {a b : List Stmt} {tc : TT} (hc : PT X c tc) (ha : PSs X a t) (hb : PSs X b u) : PS X (.If c a b pos) (tIfS tc t u) := by
  intro pins s σ H D I h
  refine wpAny_If (thn (hc pins s σ H _ I h) fun d s1 ⟨H1, I1, q1⟩ => ?_)
  cases d with
  | true => exact ha pins s1 σ H1 D I1 q1
  | false => exact hb pins s1 σ H1 D I1 q1
end
abbrev TG := V → St → Hp → (St → Hp → Prop) → Prop
abbrev TGs := List V → St → Hp → (St → Hp → Prop) → Prop
def PG (X : Cx) (target : Expr) (t : TG) : Prop :=
  ∀ (pins : List (Addr × Obj)) (s : Shared) (σ : St) (H : Hp) (v : V) (u : Value) (Q : St → Hp → Prop), Inv X pins σ H s → RelV v u → t v σ H Q →
    wpAny (model X.prog X.w) X.A (assign target X.env u) (fun _ s' => ∃ σ' H', Inv X pins σ' H' s' ∧ Q σ' H') X.xe s
def PGs (X : Cx) (ts : List Expr) (t : TGs) : Prop :=
  ∀ (pins : List (Addr × Obj)) (s : Shared) (σ : St) (H : Hp) (vs : List V) (us : List Value) (Q : St → Hp → Prop), Inv X pins σ H s → Vals vs us → t vs σ H Q →
    wpAny (model X.prog X.w) X.A (assignInOrder ((assignEach ts X.env).map (·.2)) us) (fun _ s' => ∃ σ' H', Inv X pins σ' H' s' ∧ Q σ' H') X.xe s
abbrev TSet := V → V → V → Hp → (Hp → Prop) → Prop
def PSet (X : Cx) (t : TSet) : Prop :=
  ∀ (pins : List (Addr × Obj)) (s : Shared) (σ : St) (H : Hp) (o i v : V) (ov iv u : Value) (Q : Hp → Prop), Inv X pins σ H s → RelV o ov → RelV i iv → RelV v u → t o i v H Q →
    wpAny (model X.prog X.w) X.A (setItem ov iv u) (fun _ s' => ∃ H', Inv X pins σ H' s' ∧ Q H') X.xe s
section
variable {X : Cx} {pos : Pos}
def gName (i : Nat) : TG := fun v σ H Q => Q (σ.set i (some v)) H
theorem pg_name {i : Nat} {x : Str} (hN : X.N.Nodup) (hi : X.N[i]? = some x) (hx : Loc X.env.scope x) (hf : X.fn x = true ∨ X.env.scope.names.lookup x = some .local := by first | exact .inl rfl | exact .inr rfl | assumption) : PG X (.Name x pos) (gName i) := by
  intro pins s σ H v u Q I r h
  exact wpAny_assign_Name (store_ok I hN hi hx r (fun s' I' => ⟨_, H, I', h⟩) hf)
def gNil : TGs := fun vs σ H Q => vs = [] ∧ Q σ H
def gCons (t : TG) (u : TGs) : TGs := fun vs σ H Q => ∃ v r, vs = v :: r ∧ t v σ H fun σ' H' => u r σ' H' Q
theorem pgs_nil : PGs X [] gNil := by
  intro pins s σ H vs us Q I r h
  obtain ⟨e, h⟩ := h
  subst e
  cases r
  exact assignInOrder_nil ⟨σ, H, I, h⟩
theorem pgs_cons {e : Expr} {es : List Expr} {t : TG} {u : TGs} (h1 : PG X e t) (h2 : PGs X es u)
    (hs : (assignEach (e :: es) X.env).map (·.2) = assign e X.env :: (assignEach es X.env).map (·.2) := by rfl) : PGs X (e :: es) (gCons t u) := by
  intro pins s σ H vs us Q I r h
  obtain ⟨v, vr, e1, h⟩ := h
  subst e1
  cases r with
  | cons r rr =>
    rw [hs]
    refine assignInOrder_cons (thn (h1 pins s σ H _ _ _ I r h) fun _ s1 ⟨σ1, H1, I1, q1⟩ => ?_)
    exact h2 pins s1 σ1 H1 _ _ Q I1 rr q1
def gTup (K : PySem.W.Frag) (n : Nat) (t : TGs) : TG := fun v σ H Q => ∃ a xs, v = .ref a ∧ SqT K H a xs ∧ xs.length = n ∧ t xs σ H Q
theorem pg_tup {es : List Expr} {k : Nat} {t : TGs} {n : Nat} (hc : X.calm = true) (h : PGs X es t)
    (hn : (assignEach es X.env).length = n := by rfl) (hst : (assignEach es X.env).findIdx? (·.1) = none := by rfl) : PG X (.Tuple es k pos) (gTup X.K n t) := by
  intro pins s σ H v u Q I r hw
  obtain ⟨a, xs, e1, hq, hl, hw⟩ := hw
  subst e1
  cases r
  obtain ⟨its, rv, ht, hz⟩ := I.tuple hq
  refine assign_Tuple_tuple (I.ok.hd hc) ht (by simp [hn, ← hl, rv.length]) hst fun h' hx => ?_
  have I1 : Inv X pins σ H { s with heap := h' } := I.kept (t' := s.toks) fun b o e => hx b o (Nat.ne_of_lt (Heap.lt_size e)) e
  exact h pins _ σ H xs _ Q I1 (by simpa using rv) hw
def gSub (to ti : TE) (t : TSet) : TG := fun v σ H Q => to σ H fun o H1 => ti σ H1 fun i H2 => t o i v H2 fun H3 => Q σ H3
theorem pg_sub {o i : Expr} {to ti : TE} {t : TSet} (ho : PE X o to) (hi : PE X i ti) (hs : PSet X t)
    (ha : ∀ v, assign (.Subscript o i pos) X.env v = (do
      let ov ← holding [v] (eval o X.env)
      let iv ← holding [v, ov] (eval i X.env)
      standAt pos
      holding [v, ov, iv] (setItem ov iv v)
      release [v, ov, iv] []) := by intro _; rfl) : PG X (.Subscript o i pos) (gSub to ti t) := by
  intro pins s σ H v u Q I r h
  rw [ha]
  refine wpAny_bind (wpAny_holding (thn (ho pins s σ H _ I h) fun ov s1 ⟨x, H1, I1, r1, q1⟩ => ?_))
  refine wpAny_bind (wpAny_holding (thn (hi pins s1 σ H1 _ I1 q1) fun iv s2 ⟨y, H2, I2, r2, q2⟩ => ?_))
  refine wpAny_bind (wpAny_standAt (wpAny_bind (wpAny_holding (thn (hs pins s2 σ H2 x y v ov iv u _ I2 r1 r2 r q2) fun _ s3 ⟨H3, I3, q3⟩ => ?_))))
  exact wpAny_release ⟨σ, H3, I3, q3⟩
def tAsg (te : TE) (g : TG) : TS := fun D σ H => te σ H fun x H1 => g x σ H1 D.nx
theorem ps_asg {tg e : Expr} {te : TE} {g : TG} (he : PE X e te) (hg : PG X tg g) (hs : swapsWithSole [tg] e pos.line X.env = pure false := by rfl) (hw : swappedStores [tg] e X.env = pure none := by rfl)
    (h1 : (assignEach [tg] X.env).map (·.2) = [assign tg X.env] := by rfl) : PS X (.Assign [tg] e pos) (tAsg te g) := by
  intro pins s σ H D I h
  refine wpAny_Assign_stores (thn (he pins s σ H _ I h) fun v s1 ⟨x, H1, I1, r1, q1⟩ => ?_) hs hw
  rw [h1]
  exact thn (hg pins s1 σ H1 x v _ I1 r1 q1) fun _ s2 q => q
theorem ps_set {i : Nat} {x : Str} {e : Expr} {te : TE} {pos' : Pos} (hN : X.N.Nodup) (hi : X.N[i]? = some x) (hx : Loc X.env.scope x) (he : PE X e te) (hs : swapsWith e (some (.Name x pos')) pos.line X.env = pure false := by rfl) (hf : X.fn x = true ∨ X.env.scope.names.lookup x = some .local := by first | exact .inl rfl | exact .inr rfl | assumption) :
    PS X (.Assign [.Name x pos'] e pos) (tAsg te (gName i)) := by
  intro pins s σ H D I h
  refine wpAny_Assign_Name (thn (he pins s σ H _ I h) fun v s1 ⟨y, H1, I1, r1, q1⟩ => ?_) hs
  exact store_ok I1 hN hi hx r1 (fun s2 I2 => ⟨_, H1, I2, q1⟩) hf
def tPar (i j : Nat) (ta : TA) : TS := fun D σ H => ta σ H fun vs H1 => ∃ v w, vs = [v, w] ∧ D.nx ((σ.set i (some v)).set j (some w)) H1
theorem ps_par {i j : Nat} {x y : Str} {a b : Expr} {ta : TA} {px py pt : Pos} {kt k2 pt2} (hc : X.calm = true) (hN : X.N.Nodup) (hi : X.N[i]? = some x) (hj : X.N[j]? = some y) (hij : i ≠ j)
    (hx : X.env.scope.names.lookup x = some .local) (hy : X.env.scope.names.lookup y = some .local) (ha : PA X [a, b] ta)
    (hw : swappedStores [.Tuple [.Name x px, .Name y py] kt pt] (.Tuple [a, b] k2 pt2) X.env = pure (some [x, y]))
    (hs : swapsWithSole [.Tuple [.Name x px, .Name y py] kt pt] (.Tuple [a, b] k2 pt2) pos.line X.env = pure false := by rfl) :
    PS X (.Assign [.Tuple [.Name x px, .Name y py] kt pt] (.Tuple [a, b] k2 pt2) pos) (tPar i j ta) := by
  intro pins s σ H D I h
  rw [exec_Assign_arm]
  refine wpAny_bind (wpAny_standAt ?_)
  rw [hs]
  refine wpAny_bind (wpAny_pure ?_)
  rw [if_neg (by decide)]
  refine wpAny_bind (Tuple_ (thn (ha _ pins s σ H _ I h) fun us s1 ⟨vs, H1, I1, r1, q1⟩ => ?_))
  obtain ⟨v, w, e1, q1⟩ := q1
  subst e1
  obtain ⟨u1, u2, rfl, rv, rw'⟩ : ∃ u1 u2, us = [u1, u2] ∧ RelV v u1 ∧ RelV w u2 := by
    cases r1 with
    | cons p q =>
      cases q with
      | cons p' q' =>
        cases q'
        exact ⟨_, _, rfl, p, p'⟩
  refine wpAny_newObj_type ?_ (by show 2 ≤ sizeLine; decide)
  have I2 : Inv X pins σ H1 { s1 with heap := s1.heap.push { cls := .type "tuple", data := .seq [u1, u2].toArray } } := I1.kept (t' := s1.toks) fun b o e => Heap.get?_push_of_some _ e
  rw [hw]
  refine wpAny_bind (wpAny_pure ?_)
  show wpAny (model X.prog X.w) X.A (do rule "assign.swapped-stores"; let items ← unpackItems (.ref s1.heap.objs.size) 2 none; assignInOrder [fun v => bindName X.env y v, fun v => bindName X.env x v] items.reverse; pure Flow.next) _ _ _
  refine wpAny_bind (wpAny_rule (wpAny_bind (unpackItems_tuple (items := #[u1, u2]) (I.ok.hd hc) (IsTup.new s1.heap _) fun h' hx' => ?_)))
  have I3 := I2.kept (h' := h') (t' := s1.toks) fun b o e => hx' b o (Nat.ne_of_lt (Heap.lt_size e)) e
  show wpAny _ _ (assignInOrder [fun v => bindName X.env y v, fun v => bindName X.env x v] [u2, u1] >>= fun _ => pure Flow.next) _ _ _
  refine wpAny_bind (assignInOrder_cons (wpAny_bindName (store_ok I3 hN hj (.inl hy) rw' (fun s2 I4 => ?_) (.inr hy))))
  refine assignInOrder_cons (wpAny_bindName (store_ok I4 hN hi (.inl hx) rv (fun s3 I5 => assignInOrder_nil (wpAny_pure ?_)) (.inr hx)))
  rw [List.set_comm _ _ (Ne.symm hij)] at I5
  exact ⟨_, H1, I5, q1⟩
end
section
variable {X : Cx} {pos : Pos}
def tWhile (c : TT) (tb : TS) : TS := fun D σ H => ∃ W : Nat → St → Hp → Prop, (∃ m, W m σ H) ∧ ∀ m σ H, W m σ H →
  c σ H fun b H1 => if b = true then ∃ N : St → Hp → Prop, (∀ σ' H', N σ' H' → ∃ m', m' < m ∧ W m' σ' H') ∧ tb { D with nx := N, ct := N, bk := D.nx } σ H1 else D.nx σ H1
theorem ps_while {c : Expr} {body : List Stmt} {tc : TT} {tb : TS} (hp : PassesOwn (model X.prog X.w) X.A X.env X.xe) (hc : PT X c tc) (hb : PSs X body tb) : PS X (.While c body [] pos) (tWhile tc tb) := by
  intro pins s σ H D I h
  obtain ⟨W, ⟨m0, w0⟩, turn⟩ := h
  refine wpAny_While (codeAny_whileLoop (fun n s' => ∃ σ' H', Inv X pins σ' H' s' ∧ W n σ' H') ?_ m0 ⟨σ, H, I, w0⟩)
  rintro n s1 ⟨σ1, H1, I1, w1⟩
  refine wpAny_passesOwn hp (thn (hc pins s1 σ1 H1 _ I1 (turn n σ1 H1 w1)) fun b s2 ⟨H2, I2, q2⟩ => ?_)
  cases b with
  | true =>
    obtain ⟨N, hN, q2⟩ := q2
    rw [if_pos rfl]
    refine wpAny_passesOwn hp (thn (hb pins s2 σ1 H2 _ I2 q2) fun f s3 q3 => ?_)
    cases f with
    | next =>
      obtain ⟨σ3, H3, I3, n3⟩ := q3
      obtain ⟨m', hm, w3⟩ := hN σ3 H3 n3
      exact ⟨m', hm, σ3, H3, I3, w3⟩
    | cont =>
      obtain ⟨σ3, H3, I3, n3⟩ := q3
      obtain ⟨m', hm, w3⟩ := hN σ3 H3 n3
      exact ⟨m', hm, σ3, H3, I3, w3⟩
    | brk => exact q3
    | ret v => exact q3
  | false =>
    rw [if_neg Bool.false_ne_true]
    exact wpAny_execs_nil ⟨σ1, H2, I2, q2⟩
end
structure It where
  go : Nat → Hp → Prop
  yld : Nat → Hp → V → Hp → Prop
  stop : Nat → Hp → Prop
def FpOk (X : Cx) (pins : List (Addr × Obj)) (H : Hp) (b : Addr) : Prop :=
  H b = none ∧ b ≠ X.env.locals ∧ b ∉ X.fs ∧ (b ∈ X.ex ∨ X.s₀.heap.objs.size ≤ b) ∧ (∀ x c, X.env.cells.lookup x = some c → c ≠ b) ∧ ∀ p ∈ X.pn ++ pins, p.1 ≠ b
theorem Inv.fpOk {X : Cx} {pins : List (Addr × Obj)} {σ : St} {H H' : Hp} {s : Shared} {b : Addr} (I : Inv X pins σ H s) (hb : s.heap.objs.size ≤ b) (hn : H' b = none) : FpOk X pins H' b := by
  refine ⟨hn, Nat.ne_of_gt (Nat.lt_of_lt_of_le I.lt hb), I.nofs hb, .inr (Nat.le_trans I.sz hb), fun x c e z => ?_, fun p hp z => ?_⟩
  · obtain ⟨v, q⟩ := I.cell x c e
    exact absurd (Nat.lt_of_lt_of_le q.lt (by rw [z]; exact hb)) (Nat.lt_irrefl _)
  · exact absurd (Nat.lt_of_lt_of_le (Heap.lt_size (I.pin p hp).1) (by rw [z]; exact hb)) (Nat.lt_irrefl _)
structure Turn (P : Program) (w : World) (K : PySem.W.Frag) (tg : Expr) (J : It) (fp : List Addr) (it : Addr) (tn : Nat → Heap → Prop) : Prop where
  mem : it ∈ fp
  obj : ∀ i h, tn i h → ∀ b ∈ fp, ∃ o, h.get? b = some o ∧ ∀ v, o.data ≠ .cell v
  keep : ∀ i h h', tn i h → (∀ b ∈ fp, ∀ o, h.get? b = some o → h'.get? b = some o) → tn i h'
  item : ∀ (X : Cx), X.prog = P → X.w = w → X.K = K → X.calm = true → ∀ (i : Nat) (pins : List (Addr × Obj)) (s : Shared) (σ : St) (H : Hp) (E : Value → Shared → Prop), Inv X pins σ H s → (∀ b ∈ fp, FpOk X pins H b) → tn i s.heap → J.go i H →
    wpAny (model P w) X.A (pyNext (.ref it)) (fun r s1 => ∃ u, r = some u ∧
      wpAny (model P w) X.A (letOwnedTupleGo tg (.ref it) u) (fun _ s2 => ∃ x H', Inv X pins σ H' s2 ∧ RelV x u ∧ J.yld i H x H' ∧ tn (i + 1) s2.heap ∧ ∀ b ∈ fp, H' b = none) E s1) E s
  done : ∀ (X : Cx), X.prog = P → X.w = w → X.K = K → X.calm = true → ∀ (i : Nat) (pins : List (Addr × Obj)) (s : Shared) (σ : St) (H : Hp) (E : Value → Shared → Prop), Inv X pins σ H s → (∀ b ∈ fp, FpOk X pins H b) → tn i s.heap → J.stop i H →
    wpAny (model P w) X.A (pyNext (.ref it)) (fun r s1 => r = none ∧ Inv X pins σ H s1) E s
  self : ∀ (A : Around) (i : Nat) (s : Shared) (Q : Value → Shared → Prop) (E : Value → Shared → Prop), tn i s.heap → Q (.ref it) s → wpAny (model P w) A (pyIter (.ref it)) Q E s
abbrev TI := St → Hp → (It → Hp → Prop) → Prop
def PIE (X : Cx) (pins : List (Addr × Obj)) (σ : St) (tg : Expr) (R : It → Hp → Prop) (itv : Value) (s2 : Shared) : Prop :=
  ∃ (it : Addr) (fp : List Addr) (tn : Nat → Heap → Prop) (J : It) (H' : Hp), itv = .ref it ∧ Inv X pins σ H' s2 ∧ Turn X.prog X.w X.K tg J fp it tn ∧ tn 0 s2.heap ∧ (∀ b ∈ fp, FpOk X pins H' b) ∧ R J H'
def PI (X : Cx) (tg iter : Expr) (wi : TI) : Prop :=
  ∀ (pins : List (Addr × Obj)) (s : Shared) (σ : St) (H : Hp) (R : It → Hp → Prop), Inv X pins σ H s → wi σ H R →
    wpAny (model X.prog X.w) X.A (eval iter X.env) (fun v s1 => wpAny (model X.prog X.w) X.A (pyIter v) (PIE X pins σ tg R) X.xe s1) X.xe s

theorem go_of {M : Model} {A : Around} {E : Value → Shared → Prop} {s : Shared} {tg : Expr} {it : Addr} {u : Value} {o : Obj} {n : String} {vs : Array Value} {Q : Unit → Shared → Prop} (ho : s.heap.get? it = some o) (hc : o.cls = .type n) (hd : o.data = .fields vs)
    (hn : ["enumerate", "zip", "dict_itemiterator", "dict_reverseitemiterator", "odict_iterator", "itertools.zip_longest", "itertools.pairwise"].contains n = false) (hQ : Q () s) : wpAny M A (letOwnedTupleGo tg (.ref it) u) Q E s := by
  unfold letOwnedTupleGo
  cases tg <;> first
    | exact wpAny_pure hQ
    | (cases u <;> first
        | exact wpAny_pure hQ
        | (refine wpAny_bind (wpAny_load ho ?_)
           rw [hc, hd]
           show wpAny M A (if (["enumerate", "zip", "dict_itemiterator", "dict_reverseitemiterator", "odict_iterator", "itertools.zip_longest", "itertools.pairwise"].contains n && vs[0]? == some (rawInt _)) = true then _ else _) Q E s
           rw [if_neg (by intro h; rw [hn, Bool.false_and] at h; cases h)]
           exact wpAny_pure hQ))

def Itl (K : PySem.W.Frag) (a : Addr) : It :=
  ⟨fun i H => ∃ xs x, SqL K H a xs ∧ xs[i]? = some x, fun i H x H' => H' = H ∧ ∀ xs, SqL K H a xs → xs[i]? = some x, fun i H => ∃ xs, SqL K H a xs ∧ xs.length ≤ i⟩
def Itt (K : PySem.W.Frag) (a : Addr) : It :=
  ⟨fun i H => ∃ xs x, SqT K H a xs ∧ xs[i]? = some x, fun i H x H' => H' = H ∧ ∀ xs, SqT K H a xs → xs[i]? = some x, fun i H => ∃ xs, SqT K H a xs ∧ xs.length ≤ i⟩
def Itr (lo : Int) (n : Nat) : It := ⟨fun i _ => i < n, fun i H x H' => H' = H ∧ x = .int (lo + i), fun i _ => n ≤ i⟩
theorem turn_list {P : Program} {w : World} {K : PySem.W.Frag} {tg : Expr} (a it : Addr) : Turn P w K tg (Itl K a) [it] it (fun i h => h.IsListIter it a i) where
  mem := by simp
  obj := fun i h st b hb => by
    have e : b = it := by simpa using hb
    subst e
    obtain ⟨o, e, c, d⟩ := st
    exact ⟨o, e, fun v z => by rw [d] at z; cases z⟩
  keep := fun i h h' st k => st.at fun o e => k it (by simp) o e
  item := by
    intro X hP hw hK hc i pins s σ H E I hf st hg
    subst hP hw hK
    obtain ⟨xs, x, hq, hx⟩ := hg
    obtain ⟨its, rv, p, hz⟩ := I.list hq
    obtain ⟨u, hu, ru⟩ := rv.get hx
    obtain ⟨f0, f1, f2, f3, f4, f5⟩ := hf it (by simp)
    refine wpAny_pyNext_list_item st p.isList (x := u) (by simpa using hu) fun h' st' sb => ?_
    have I1 : Inv X pins σ H { s with heap := h' } := I.turned (t' := s.toks) (fun b o hb e => (sb.2 b hb).trans e) f0 f1 f3 f4 f5
    obtain ⟨o, e, c, d⟩ := id st'
    exact ⟨u, rfl, go_of (s := { s with heap := h' }) e c d (by decide) ⟨x, H, I1, ru, ⟨rfl, fun ys hy => by rw [I.list_inj hy hq]; exact hx⟩, st', fun b hb => (hf b hb).1⟩⟩
  done := by
    intro X hP hw hK hc i pins s σ H E I hf st hg
    subst hP hw hK
    obtain ⟨xs, hq, hx⟩ := hg
    obtain ⟨its, rv, p, hz⟩ := I.list hq
    obtain ⟨f0, f1, f2, f3, f4, f5⟩ := hf it (by simp)
    have hl := rv.length
    exact wpAny_pyNext_list_end (I.ok.hd hc) st p.isList (by simp; omega) fun h' eb => ⟨rfl, I.turned (t' := s.toks) (fun b o hb e => eb b o hb e) f0 f1 f3 f4 f5⟩
  self := fun _ _ _ _ _ st h => wpAny_pyIter_listiter st h
theorem turn_tuple {P : Program} {w : World} {K : PySem.W.Frag} {tg : Expr} (a it : Addr) : Turn P w K tg (Itt K a) [it] it (fun i h => h.IsTupleIter it a i) where
  mem := by simp
  obj := fun i h st b hb => by
    have e : b = it := by simpa using hb
    subst e
    obtain ⟨o, e, c, d⟩ := st
    exact ⟨o, e, fun v z => by rw [d] at z; cases z⟩
  keep := fun i h h' st k => st.at fun o e => k it (by simp) o e
  item := by
    intro X hP hw hK hc i pins s σ H E I hf st hg
    subst hP hw hK
    obtain ⟨xs, x, hq, hx⟩ := hg
    obtain ⟨its, rv, p, hz⟩ := I.tuple hq
    obtain ⟨u, hu, ru⟩ := rv.get hx
    obtain ⟨f0, f1, f2, f3, f4, f5⟩ := hf it (by simp)
    refine wpAny_pyNext_tuple_item st (show s.heap.IsTuple a its.toArray from p) (x := u) (by simpa using hu) fun h' st' sb => ?_
    have I1 : Inv X pins σ H { s with heap := h' } := I.turned (t' := s.toks) (fun b o hb e => (sb.2 b hb).trans e) f0 f1 f3 f4 f5
    obtain ⟨o, e, c, d⟩ := id st'
    exact ⟨u, rfl, go_of (s := { s with heap := h' }) e c d (by decide) ⟨x, H, I1, ru, ⟨rfl, fun ys hy => by rw [I.tuple_inj hy hq]; exact hx⟩, st', fun b hb => (hf b hb).1⟩⟩
  done := by
    intro X hP hw hK hc i pins s σ H E I hf st hg
    subst hP hw hK
    obtain ⟨xs, hq, hx⟩ := hg
    obtain ⟨its, rv, p, hz⟩ := I.tuple hq
    obtain ⟨f0, f1, f2, f3, f4, f5⟩ := hf it (by simp)
    have hl := rv.length
    exact wpAny_pyNext_tuple_end (I.ok.hd hc) st (show s.heap.IsTuple a its.toArray from p) (by simp; omega) fun h' eb => ⟨rfl, I.turned (t' := s.toks) (fun b o hb e => eb b o hb e) f0 f1 f3 f4 f5⟩
  self := fun _ _ _ _ _ st h => wpAny_pyIter_tupleiter st h
theorem turn_range {P : Program} {w : World} {K : PySem.W.Frag} {tg : Expr} (it : Addr) (lo : Int) (n : Nat) : Turn P w K tg (Itr lo n) [it] it (fun i h => IsRangeIter h it (lo + (i : Nat) * 1) ((n : Int) - (i : Nat)) 1) where
  mem := by simp
  obj := fun i h st b hb => by
    have e : b = it := by simpa using hb
    subst e
    exact ⟨_, st, fun v z => by
      have z' : Data.fields _ = Data.cell v := z
      cases z'⟩
  keep := fun i h h' st k => k it (by simp) _ st
  item := by
    intro X hP hw hK hc i pins s σ H E I hf st hg
    subst hP hw hK
    obtain ⟨f0, f1, f2, f3, f4, f5⟩ := hf it (by simp)
    have W := Walks.range (prog := X.prog) (w := X.w) (I.ok.hd hc) it lo 1 n
    refine W.item i s _ _ hg st fun v h' tk hv st' kk => ?_
    obtain ⟨t, rfl⟩ := hv
    have I1 : Inv X pins σ H { s with heap := h', toks := tk } := I.turned (fun b o hb e => kk b o (by simpa using hb) e) f0 f1 f3 f4 f5
    refine ⟨_, rfl, go_of (s := { s with heap := h', toks := tk }) (n := "range_iterator") st' rfl rfl (by decide) ⟨.int (lo + i), H, I1, ⟨t, ?_⟩, ⟨rfl, rfl⟩, st', fun b hb => (hf b hb).1⟩⟩
    rw [Int.mul_one]
  done := by
    intro X hP hw hK hc i pins s σ H E I hf st hg
    subst hP hw hK
    obtain ⟨f0, f1, f2, f3, f4, f5⟩ := hf it (by simp)
    exact wpAny_pyNext_range_end (I.ok.hd hc) st (by have : n ≤ i := hg; omega) fun h' eb => ⟨rfl, I.turned (t' := s.toks) (fun b o hb e => eb b o hb e) f0 f1 f3 f4 f5⟩
  self := fun _ _ _ _ _ st h => wpAny_pyIter_rangeiter st h
end L2
namespace L2
open PySem PySem.Spec PyProof.Rows
section
variable {X : Cx} {tg : Expr}
def iTup (K : PySem.W.Frag) (tl : TE) : TI := fun σ H R => tl σ H fun x H1 => ∃ a, x = .ref a ∧ (∃ xs, SqT K H1 a xs) ∧ R (Itt K a) H1
theorem pi_tup {l : Expr} {tl : TE} (hl : PE X l tl) : PI X tg l (iTup X.K tl) := by
  intro pins s σ H R I h
  refine thn (hl pins s σ H _ I h) fun v s1 ⟨x, H1, I1, r1, q1⟩ => ?_
  obtain ⟨a, e, ⟨xs, hq⟩, q⟩ := q1
  subst e
  cases r1
  obtain ⟨its, rv, p, hz⟩ := I1.tuple hq
  refine wpAny_pyIter_tuple (show s1.heap.IsTuple a its.toArray from p) ?_
  refine ⟨s1.heap.objs.size, [s1.heap.objs.size], _, _, H1, rfl, I1.kept (t' := s1.toks) fun b o e => Heap.get?_push_of_some _ e, turn_tuple a _, ⟨_, Heap.get?_push_size _ rfl, rfl, rfl⟩, fun b hb => ?_, q⟩
  have e : b = s1.heap.objs.size := by simpa using hb
  subst e
  exact I1.fpOk (Nat.le_refl _) (I1.hok.fresh (Nat.le_refl _))
theorem range_it {pins : List (Addr × Obj)} {σ : St} {H : Hp} {s : Shared} {R : It → Hp → Prop} {E : Value → Shared → Prop} {lo hi : Int} {t u v : Tok} {tk : Nat} (I : Inv X pins σ H s) (h1 : -(2 ^ 62) ≤ lo) (h2 : lo < 2 ^ 62) (h3 : -(2 ^ 62) ≤ hi) (h4 : hi < 2 ^ 62)
    (q : R (Itr lo (hi - lo).toNat) H) : wpAny (model X.prog X.w) X.A (pyIter (.ref s.heap.objs.size)) (PIE X pins σ tg R) E { s with heap := s.heap.push { cls := .type "range", data := .fields #[.int lo t, .int hi u, .int 1 v] }, toks := tk } := by
  refine wpAny_pyIter_range (IsRange.new ..) (small_one h1 h2 h3 h4) ?_
  have I1 : Inv X pins σ H { s with heap := s.heap.push { cls := .type "range", data := .fields #[.int lo t, .int hi u, .int 1 v] }, toks := tk } := I.kept fun b o e => Heap.get?_push_of_some _ e
  refine ⟨(s.heap.push { cls := .type "range", data := .fields #[.int lo t, .int hi u, .int 1 v] }).objs.size, [(s.heap.push { cls := .type "range", data := .fields #[.int lo t, .int hi u, .int 1 v] }).objs.size], _, _, H, rfl,
    I1.kept (t' := tk) fun b o e => Heap.get?_push_of_some _ e, turn_range _ lo (hi - lo).toNat, ?_, fun b hb => ?_, q⟩
  · have e1 : lo + ((0 : Nat) : Int) * 1 = lo := by simp
    have e2 : (((hi - lo).toNat : Nat) : Int) - ((0 : Nat) : Int) = Builtin.Range.rangeSize lo hi 1 := by rw [rangeSize_one]; split <;> omega
    show IsRangeIter _ _ (lo + ((0 : Nat) : Int) * 1) ((((hi - lo).toNat : Nat) : Int) - ((0 : Nat) : Int)) 1
    rw [e1, e2]
    exact Heap.get?_push_size _ rfl
  · have e : b = (s.heap.push { cls := .type "range", data := .fields #[.int lo t, .int hi u, .int 1 v] }).objs.size := by simpa using hb
    subst e
    exact I1.fpOk (Nat.le_refl _) (I1.hok.fresh (Nat.le_refl _))
def iRng1 (ta : TA) : TI := fun σ H R => ta σ H fun vs H1 => ∃ j : Int, vs = [.int j] ∧ -(2 ^ 62) ≤ j ∧ j < 2 ^ 62 ∧ R (Itr 0 j.toNat) H1
theorem pi_range1 {a : Expr} {ta : TA} {p pos : Pos} (hg : Gl X "range") (hm : X.mg "range" = none) (ha : PA X [a] ta) (hs : starEach [a] X.env = [(false, eval a X.env)] := by rfl) : PI X tg (.Call (.Name "range" p) [a] [] pos) (iRng1 ta) := by
  intro pins s σ H R I h
  refine Call_ (ld_blt I hg hm boot_range (PyProof.Rows.callWith_type1 (thn (ha pos pins s σ H _ I h) fun us s1 ⟨vs, H1, I1, r1, q1⟩ => ?_) hs rfl))
  obtain ⟨j, e, q1, q2, q⟩ := q1
  subst e
  cases r1 with
  | cons r rr =>
    cases rr
    obtain ⟨t, rfl⟩ := r
    exact call_range_1 (range_it I1 (by omega) (by omega) q1 q2 (by simpa using q))
def tFor (wi : TI) (g : TG) (tb : TS) : TS := fun D σ H => wi σ H fun J H1 => ∃ W : Nat → Nat → St → Hp → Prop, (∃ m, W 0 m σ H1) ∧ ∀ i m σ H, W i m σ H →
  (J.stop i H ∧ D.nx σ H) ∨ (J.go i H ∧ ∃ N : St → Hp → Prop, (∀ σ' H', N σ' H' → ∃ m', m' < m ∧ W (i + 1) m' σ' H') ∧ ∀ x H', J.yld i H x H' → g x σ H' fun σ2 H2 => tb { D with nx := N, ct := N, bk := D.nx } σ2 H2)
def pinsAt (fp : List Addr) (h : Heap) : List (Addr × Obj) := fp.filterMap fun b => (h.get? b).map fun o => (b, o)
theorem mem_pinsAt {fp : List Addr} {h : Heap} {b : Addr} {o : Obj} (hb : b ∈ fp) (e : h.get? b = some o) : (b, o) ∈ pinsAt fp h := List.mem_filterMap.mpr ⟨b, hb, by rw [e]; rfl⟩
theorem of_pinsAt {fp : List Addr} {h : Heap} {p : Addr × Obj} (hp : p ∈ pinsAt fp h) : p.1 ∈ fp ∧ h.get? p.1 = some p.2 := by
  obtain ⟨b, hb, e⟩ := List.mem_filterMap.mp hp
  cases q : h.get? b with
  | none => rw [q] at e; cases e
  | some o =>
    rw [q] at e
    have e' : (b, o) = p := Option.some.inj e
    subst e'
    exact ⟨hb, q⟩
theorem Inv.pinned {pins : List (Addr × Obj)} {σ : St} {H : Hp} {s : Shared} {fp : List Addr} (I : Inv X pins σ H s) (hf : ∀ b ∈ fp, FpOk X pins H b) (ho : ∀ b ∈ fp, ∃ o, s.heap.get? b = some o ∧ ∀ v, o.data ≠ .cell v) : Inv X (pins ++ pinsAt fp s.heap) σ H s :=
  I.pins_of fun p hp => (List.mem_append.mp hp).elim (fun z => I.pin p (List.mem_append_right _ z)) fun z => by
    obtain ⟨hb, e⟩ := of_pinsAt z
    obtain ⟨f0, f1, f2, _⟩ := hf p.1 hb
    obtain ⟨o, e', d⟩ := ho p.1 hb
    rw [e] at e'; cases e'
    exact ⟨e, f0, f1, f2, d⟩
theorem Inv.unpinned {pins pl : List (Addr × Obj)} {σ : St} {H : Hp} {s : Shared} (I : Inv X (pins ++ pl) σ H s) : Inv X pins σ H s := I.pins_of fun p hp => I.pin p (List.mem_append_right _ (List.mem_append_left _ hp))
theorem ps_for {iter : Expr} {body : List Stmt} {wi : TI} {g : TG} {tb : TS} {pos : Pos} (hp : PassesOwn (model X.prog X.w) X.A X.env X.xe) (hc : X.calm = true) (hi : PI X tg iter wi) (hg : PG X tg g) (hb : PSs X body tb)
    (hs : ∀ x, foldedSetIterable iter X.env x = pure x := by intro _; rfl) : PS X (.For tg iter body [] pos) (tFor wi g tb) := by
  intro pins s σ H D I h
  refine wpAny_For (thn (hi pins s σ H _ I h) fun v s1 h1 => thn h1 fun itv s2 h2 => ?_) hs
  obtain ⟨it, fp, tn, J, H2, e, I2, T, st2, f2, W, ⟨m0, w0⟩, turn⟩ := h2
  subst e
  -- what stays true of the iterator's objects through the loop
  have stat : ∀ {H' : Hp}, (∀ b ∈ fp, H' b = none) → ∀ b ∈ fp, FpOk X pins H' b := fun hn b hb => ⟨hn b hb, (f2 b hb).2⟩
  refine codeAny_forLoop_any (fun n s' => ∃ i σ' H', Inv X pins σ' H' s' ∧ tn i s'.heap ∧ (∀ b ∈ fp, H' b = none) ∧ W i n σ' H') ?_ m0 ⟨0, σ, H2, I2, st2, fun b hb => (f2 b hb).1, w0⟩
  rintro n s3 ⟨i, σ3, H3, I3, st3, fr3, w3⟩
  rcases turn i n σ3 H3 w3 with ⟨stop, qn⟩ | ⟨go, N, hN, step⟩
  · refine wpAny_passesOwn hp (thn (T.done X rfl rfl rfl hc i pins s3 σ3 H3 X.xe I3 (stat fr3) st3 stop) fun r s4 ⟨hr, I4⟩ => ?_)
    subst hr
    exact wpAny_execs_nil ⟨σ3, H3, I4, qn⟩
  · refine wpAny_passesOwn hp (thn (T.item X rfl rfl rfl hc i pins s3 σ3 H3 X.xe I3 (stat fr3) st3 go) fun r s4 ⟨u, hr, h4⟩ => ?_)
    subst hr
    refine wpAny_passesOwn hp (thn h4 fun _ s5 ⟨x, H5, I5, r5, y5, st5, fr5⟩ => ?_)
    have I5' := I5.pinned (stat fr5) (T.obj _ _ st5)
    refine wpAny_passesOwn hp (thn (hg _ s5 σ3 H5 x u _ I5' r5 (step x H5 y5)) fun _ s6 ⟨σ6, H6, I6, q6⟩ => ?_)
    refine wpAny_passesOwn hp (thn (hb _ s6 σ6 H6 _ I6 q6) fun f s7 q7 => ?_)
    have again : ∀ {σ7 : St} {H7 : Hp}, Inv X (pins ++ pinsAt fp s5.heap) σ7 H7 s7 → N σ7 H7 → ∃ m, m < n ∧ ∃ i σ' H', Inv X pins σ' H' s7 ∧ tn i s7.heap ∧ (∀ b ∈ fp, H' b = none) ∧ W i m σ' H' := fun {σ7 H7} I7 n7 => by
      obtain ⟨m', hm, w7⟩ := hN σ7 H7 n7
      refine ⟨m', hm, i + 1, σ7, H7, I7.unpinned, T.keep _ _ _ st5 fun b hb o e => (I7.pin (b, o) (List.mem_append_right _ (List.mem_append_right _ (mem_pinsAt hb e)))).1, fun b hb => ?_, w7⟩
      obtain ⟨o, e, d⟩ := T.obj _ _ st5 b hb
      exact (I7.pin (b, o) (List.mem_append_right _ (List.mem_append_right _ (mem_pinsAt hb e)))).2.1
    cases f with
    | next => obtain ⟨σ7, H7, I7, n7⟩ := q7; exact again I7 n7
    | cont => obtain ⟨σ7, H7, I7, n7⟩ := q7; exact again I7 n7
    | brk => obtain ⟨σ7, H7, I7, q7⟩ := q7; exact ⟨σ7, H7, I7.unpinned, q7⟩
    | ret v => obtain ⟨x7, σ7, H7, I7, r7, q7⟩ := q7; exact ⟨x7, σ7, H7, I7.unpinned, r7, q7⟩
end
end L2
namespace L2
open PySem PySem.Spec PyProof.Rows
abbrev R2 := V → V → Hp → VK → Prop
def OpR (X : Cx) (f : Value → Value → Sem Value) (r : R2) : Prop :=
  ∀ (pins : List (Addr × Obj)) (s : Shared) (σ : St) (H : Hp) (x y : V) (v u : Value) (Q : VK), Inv X pins σ H s → RelV x v → RelV y u → r x y H Q →
    wpAny (model X.prog X.w) X.A (f v u) (EP X pins σ Q) X.xe s
def UnR (X : Cx) (f : Value → Sem Value) (r : V → Hp → VK → Prop) : Prop :=
  ∀ (pins : List (Addr × Obj)) (s : Shared) (σ : St) (H : Hp) (x : V) (v : Value) (Q : VK), Inv X pins σ H s → RelV x v → r x H Q →
    wpAny (model X.prog X.w) X.A (f v) (EP X pins σ Q) X.xe s
def CallR (X : Cx) (f : Value) (r : List V → Hp → VK → Prop) : Prop :=
  ∀ (pins : List (Addr × Obj)) (s : Shared) (σ : St) (H : Hp) (xs : List V) (us : List Value) (Q : VK), Inv X pins σ H s → Vals xs us → r xs H Q →
    wpAny (model X.prog X.w) X.A (call f us) (EP X pins σ Q) X.xe s
def tOp (r : R2) (ta tb : TE) : TE := fun σ H Q => ta σ H fun x H1 => tb σ H1 fun y H2 => r x y H2 Q
def tUn (r : V → Hp → VK → Prop) (ta : TE) : TE := fun σ H Q => ta σ H fun x H1 => r x H1 Q
def rI (C : Int → Int → Prop) (g : Int → Int → V) : R2 := fun x y H Q => ∃ i j, x = .int i ∧ y = .int j ∧ C i j ∧ Q (g i j) H
def rI0 (g : Int → Int → V) : R2 := fun x y H Q => ∃ i j, x = .int i ∧ y = .int j ∧ Q (g i j) H
def rU (g : Int → V) : V → Hp → VK → Prop := fun x H Q => ∃ i, x = .int i ∧ Q (g i) H

section
variable {X : Cx} {a b c : Expr} {ta tb tc : TE} {pos : Pos}
theorem binT (ha : PE X a ta) (hb : PE X b tb) {pins : List (Addr × Obj)} {s : Shared} {σ : St} {H : Hp} {R : V → V → Hp → Prop} (I : Inv X pins σ H s)
    (h : ta σ H fun x H1 => tb σ H1 fun y H2 => R x y H2) {Q : Value → Shared → Prop} {f : Value → Value → Sem Value}
    (hf : ∀ v u s2 x y H2, Inv X pins σ H2 s2 → RelV x v → RelV y u → R x y H2 → wpAny (model X.prog X.w) X.A (f v u) Q X.xe s2) :
    wpAny (model X.prog X.w) X.A (eval a X.env) (fun v s₁ => wpAny (model X.prog X.w) X.A (eval b X.env) (fun u s₂ => wpAny (model X.prog X.w) X.A (f v u) Q X.xe s₂) X.xe s₁) X.xe s := by
  refine thn (ha pins s σ H _ I h) fun v s1 ⟨x, H1, I1, r1, q1⟩ => ?_
  refine thn (hb pins s1 σ H1 _ I1 q1) fun u s2 ⟨y, H2, I2, r2, q2⟩ => ?_
  exact hf v u s2 x y H2 I2 r1 r2 q2

theorem pe_op {op : Operator} {r : R2} (ho : OpR X (binaryOp op) r) (ha : PE X a ta) (hb : PE X b tb) : PE X (.BinOp a op b pos) (tOp r ta tb) := by
  intro pins s σ H Q I h
  exact wpAny_BinOp (binT ha hb I h fun v u s2 x y H2 I2 rx ry q => ho pins s2 σ H2 x y v u Q I2 rx ry q)
theorem pe_un {op : UnaryOp} {r : V → Hp → VK → Prop} (ho : UnR X (unaryOp op) r) (ha : PE X a ta) : PE X (.UnaryOp op a pos) (tUn r ta) := by
  intro pins s σ H Q I h
  exact UnaryOp_ (thn (ha pins s σ H _ I h) fun v s1 ⟨x, H1, I1, r1, q1⟩ => ho pins s1 σ H1 x v Q I1 r1 q1)
theorem opI {f : Value → Value → Sem Value} {C : Int → Int → Prop} {g : Int → Int → Int}
    (rule : ∀ (i j : Int) (t u : Tok) (s : Shared) (Q : Value → Shared → Prop) (E : Value → Shared → Prop), C i j → Q (.int (g i j) s.toks) { s with toks := s.toks + 1 } → wpAny (model X.prog X.w) X.A (f (.int i t) (.int j u)) Q E s) :
    OpR X f (rI C fun i j => .int (g i j)) := by
  intro pins s σ H x y v u Q I rx ry h
  obtain ⟨i, j, rfl, rfl, hc, q⟩ := h
  obtain ⟨t, rfl⟩ := rx
  obtain ⟨t', rfl⟩ := ry
  exact rule i j t t' s _ _ hc ⟨.int (g i j), H, I.tok _, ⟨_, rfl⟩, q⟩
theorem opI0 {f : Value → Value → Sem Value} {g : Int → Int → Int}
    (rule : ∀ (i j : Int) (t u : Tok) (s : Shared) (Q : Value → Shared → Prop) (E : Value → Shared → Prop), Q (.int (g i j) s.toks) { s with toks := s.toks + 1 } → wpAny (model X.prog X.w) X.A (f (.int i t) (.int j u)) Q E s) :
    OpR X f (rI0 fun i j => .int (g i j)) := by
  intro pins s σ H x y v u Q I rx ry h
  obtain ⟨i, j, rfl, rfl, q⟩ := h
  obtain ⟨t, rfl⟩ := rx
  obtain ⟨t', rfl⟩ := ry
  exact rule i j t t' s _ _ ⟨.int (g i j), H, I.tok _, ⟨_, rfl⟩, q⟩
theorem opB0 {f : Value → Value → Sem Value} {g : Int → Int → Bool}
    (rule : ∀ (i j : Int) (t u : Tok) (s : Shared) (Q : Value → Shared → Prop) (E : Value → Shared → Prop), Q (.bool (g i j)) s → wpAny (model X.prog X.w) X.A (f (.int i t) (.int j u)) Q E s) :
    OpR X f (rI0 fun i j => .bl (g i j)) := by
  intro pins s σ H x y v u Q I rx ry h
  obtain ⟨i, j, rfl, rfl, q⟩ := h
  obtain ⟨t, rfl⟩ := rx
  obtain ⟨t', rfl⟩ := ry
  exact rule i j t t' s _ _ ⟨.bl (g i j), H, I, rfl, q⟩

def CDiv (i j : Int) : Prop := 0 < j ∧ j < 1073741824
def CPow (i j : Int) : Prop := 0 ≤ j ∧ j ≤ 1000000 ∧ i.natAbs < 2 ^ 64
def CMul (i j : Int) : Prop := (-(2 ^ 64) < i ∧ i < 2 ^ 64) ∨ (-(2 ^ 64) < j ∧ j < 2 ^ 64)
theorem CMul.ok {i j : Int} (h : CMul i j) : IntMulOk i j := by
  rcases h with ⟨h1, h2⟩ | ⟨h1, h2⟩
  · exact .of_left (intBits_le_64 h1 h2)
  · exact .of_right (intBits_le_64 h1 h2)
theorem op_add : OpR X (binaryOp .Add) (rI0 fun i j => .int (i + j)) := opI0 fun _ _ _ _ _ _ _ q => add_int q
theorem op_sub : OpR X (binaryOp .Sub) (rI0 fun i j => .int (i - j)) := opI0 fun _ _ _ _ _ _ _ q => sub_int q
theorem op_mul : OpR X (binaryOp .Mult) (rI CMul fun i j => .int (i * j)) := opI fun _ _ _ _ _ _ _ hc q => mul_int q hc.ok
theorem op_fdiv : OpR X (binaryOp .FloorDiv) (rI CDiv fun i j => .int (i / j)) := opI fun i j _ _ _ _ _ hc q => by
  have h1 : (0 : Int) < j := hc.1
  have h2 : j < 1073741824 := hc.2
  exact floordiv_int (by omega) (by rw [Int.fdiv_eq_ediv_of_nonneg i (by omega)]; exact q) (.inl (PyProof.noPylong_small (by omega)))
theorem op_mod : OpR X (binaryOp .Mod) (rI (fun _ j => 0 < j) fun i j => .int (i % j)) := opI fun i j _ _ _ _ _ hc q => by
  have h1 : (0 : Int) < j := hc
  exact mod_int' (by omega) (by rw [Int.fmod_eq_emod_of_nonneg i (by omega)]; exact q)
theorem op_pow : OpR X (binaryOp .Pow) (rI CPow fun i j => .int (i ^ j.toNat)) := opI fun _ _ _ _ _ _ _ hc q => pow_int_small hc.1 hc.2.1 hc.2.2 q
theorem unI {f : Value → Sem Value} {g : Int → Int}
    (rule : ∀ (i : Int) (t : Tok) (s : Shared) (Q : Value → Shared → Prop) (E : Value → Shared → Prop), Q (.int (g i) s.toks) { s with toks := s.toks + 1 } → wpAny (model X.prog X.w) X.A (f (.int i t)) Q E s) :
    UnR X f (rU fun i => .int (g i)) := by
  intro pins s σ H x v Q I rx h
  obtain ⟨i, rfl, q⟩ := h
  obtain ⟨t, rfl⟩ := rx
  exact rule i t s _ _ ⟨.int (g i), H, I.tok _, ⟨_, rfl⟩, q⟩
theorem un_neg : UnR X (unaryOp .USub) (rU fun i => .int (-i)) := unI fun _ _ _ _ _ q => neg_int q
end
section
variable {X : Cx} {a b c : Expr} {ta tb tc : TE} {pos : Pos}
theorem fin_bl {pins : List (Addr × Obj)} {σ : St} {H : Hp} {s : Shared} {Q : VK} {k k' : Bool} (I : Inv X pins σ H s) (q : Q (.bl k) H) (e : k = k') : EP X pins σ Q (.bool k') s := by
  subst e
  exact ⟨.bl k, H, I, rfl, q⟩
theorem op_lt : OpR X (compareOp .Lt) (rI0 fun i j => .bl (decide (i < j))) := opB0 fun _ _ _ _ _ _ _ q => lt_int q
theorem op_le : OpR X (compareOp .LtE) (rI0 fun i j => .bl (decide (i ≤ j))) := opB0 fun _ _ _ _ _ _ _ q => le_int q
theorem op_gt : OpR X (compareOp .Gt) (rI0 fun i j => .bl (decide (j < i))) := opB0 fun _ _ _ _ _ _ _ q => gt_int q
theorem op_ge : OpR X (compareOp .GtE) (rI0 fun i j => .bl (decide (j ≤ i))) := opB0 fun _ _ _ _ _ _ _ q => ge_int q
theorem op_lt_str : OpR X (compareOp .Lt) (fun x y H Q => ∃ i j, x = .str i ∧ y = .str j ∧ Q (.bl (decide (i.cps.toList < j.cps.toList))) H) := by
  intro pins s σ H x y v u Q I rx ry h
  obtain ⟨i, j, rfl, rfl, q⟩ := h
  obtain ⟨t, rfl⟩ := rx
  obtain ⟨t', rfl⟩ := ry
  exact lt_str (fin_bl I q rfl)
theorem op_in_str : OpR X (compareOp .In) (fun x y H Q => ∃ i j, x = .str i ∧ y = .str j ∧ Q (.bl (!(Builtin.Str.occurrences j i 0 j.length 1).isEmpty)) H) := by
  intro pins s σ H x y v u Q I rx ry h
  obtain ⟨i, j, rfl, rfl, q⟩ := h
  obtain ⟨t, rfl⟩ := rx
  obtain ⟨t', rfl⟩ := ry
  exact in_str (fin_bl I q rfl)

theorem op_isN : OpR X (compareOp .Is) (fun x y H Q => y = .non ∧ Q (.bl (decide (x = .non))) H) := by
  intro pins s σ H x y v u Q I rx ry h
  obtain ⟨rfl, q⟩ := h
  cases ry
  refine is_none_gen (fin_bl I q ?_)
  cases x <;> first
    | (cases rx; rfl)
    | (obtain ⟨t, rfl⟩ := rx; rfl)
theorem op_notN : OpR X (compareOp .IsNot) (fun x y H Q => y = .non ∧ Q (.bl (!decide (x = .non))) H) := by
  intro pins s σ H x y v u Q I rx ry h
  obtain ⟨rfl, q⟩ := h
  cases ry
  refine isnot_none_gen (fin_bl I q ?_)
  cases x <;> first
    | (cases rx; rfl)
    | (obtain ⟨t, rfl⟩ := rx; rfl)

theorem OpR.or {f : Value → Value → Sem Value} {r r' : R2} (h : OpR X f r) (h' : OpR X f r') : OpR X f (fun x y H Q => r x y H Q ∨ r' x y H Q) := by
  intro pins s σ H x y v u Q I rx ry q
  rcases q with q | q
  · exact h pins s σ H x y v u Q I rx ry q
  · exact h' pins s σ H x y v u Q I rx ry q

theorem pe_cmpR {op : CmpOp} {r : R2} (ho : OpR X (compareOp op) r) (ha : PE X a ta) (hb : PE X b tb) (hm : behindInMarks op b = false) : PE X (.Compare a [op] [b] pos) (tOp r ta tb) := by
  intro pins s σ H Q I h
  exact wpAny_Compare1 (binT ha hb I h fun v u s2 x y H2 I2 rx ry q => ho pins s2 σ H2 x y v u Q I2 rx ry q) hm
def tTest (t : TE) : TT := fun σ H Q => t σ H fun x H' => ∃ k, x = .bl k ∧ Q k H'
theorem pt_cmpR {op : CmpOp} {r : R2} (ho : OpR X (compareOp op) r) (ha : PE X a ta) (hb : PE X b tb) (hm : behindInMarks op b = false) : PT X (.Compare a [op] [b] pos) (tTest (tOp r ta tb)) := by
  intro pins s σ H Q I h
  refine wpAny_isTrue_Compare1 (thn (ha pins s σ H _ I h) fun v s1 ⟨x, H1, I1, r1, q1⟩ => thn (hb pins s1 σ H1 _ I1 q1) fun u s2 ⟨y, H2, I2, r2, q2⟩ =>
    thn (ho pins s2 σ H2 x y v u _ I2 r1 r2 q2) fun c s3 ⟨z, H3, I3, r3, k, e, q3⟩ => ?_) hm
  subst e
  cases r3
  exact wpAny_truthy_bool ⟨H3, I3, q3⟩
def tChain (r r' : R2) (ta tb tc : TE) : TE := fun σ H Q => ta σ H fun x H1 => tb σ H1 fun y H2 => r x y H2 fun z H3 => ∃ k, z = .bl k ∧
  (if k = true then tc σ H3 fun w' H4 => r' y w' H4 Q else Q (.bl false) H3)
theorem pe_chain {op op' : CmpOp} {r r' : R2} (ho : OpR X (compareOp op) r) (ho' : OpR X (compareOp op') r') (ha : PE X a ta) (hb : PE X b tb) (hc : PE X c tc)
    (hm : lastMarks [op, op'] [b, c] = false := by with_unfolding_all rfl) : PE X (.Compare a [op, op'] [b, c] pos) (tChain r r' ta tb tc) := by
  intro pins s σ H Q I h
  refine Compare_chain (thn (ha pins s σ H _ I h) fun v s1 ⟨x, H1, I1, r1, q1⟩ => chain_link (thn (hb pins s1 σ H1 _ I1 q1) fun u s2 ⟨y, H2, I2, r2, q2⟩ =>
    thn (ho pins s2 σ H2 x y v u _ I2 r1 r2 q2) fun d s3 ⟨z, H3, I3, r3, k, e, q3⟩ => ?_)) hm
  subst e
  cases r3
  refine wpAny_truthy_bool ?_
  cases k with
  | false => exact ite_ff ⟨.bl false, H3, I3, rfl, q3⟩
  | true => exact ite_tt (chain_last (thn (hc pins s3 σ H3 _ I3 q3) fun w' s4 ⟨z', H4, I4, r4, q4⟩ => ho' pins s4 σ H4 y z' u w' Q I4 r2 r4 q4))
theorem line63 : (sizeLine : Nat) < 2 ^ 63 := by rw [sizeLine_eq]; decide
theorem op_add_str : OpR X (binaryOp .Add) (fun x y H Q => ∃ i j, x = .str i ∧ y = .str j ∧ i.length + j.length ≤ sizeLine ∧ Q (.str (i ++ j)) H) := by
  intro pins s σ H x y v u Q I rx ry h
  obtain ⟨i, j, rfl, rfl, hz, q⟩ := h
  obtain ⟨t, rfl⟩ := rx
  obtain ⟨t', rfl⟩ := ry
  exact add_str (fun t' tk => ⟨.str (i ++ j), H, I.tok _, ⟨_, rfl⟩, q⟩) hz
theorem vals1 {x : V} {us : List Value} (r : Vals [x] us) : ∃ u, us = [u] ∧ RelV x u := by
  cases r with
  | cons r1 r2 => cases r2; exact ⟨_, rfl, r1⟩
theorem vals2 {x y : V} {us : List Value} (r : Vals [x, y] us) : ∃ u w', us = [u, w'] ∧ RelV x u ∧ RelV y w' := by
  cases r with
  | cons r1 r2 =>
    cases r2 with
    | cons r3 r4 => cases r4; exact ⟨_, _, rfl, r1, r3⟩
theorem call_abs : CallR X (.builtin "abs") (fun xs H Q => ∃ i, xs = [.int i] ∧ Q (.int (if i < 0 then -i else i)) H) := by
  intro pins s σ H xs us Q I r h
  obtain ⟨i, rfl, q⟩ := h
  obtain ⟨u, rfl, t, rfl⟩ := vals1 r
  exact call_abs_int fun u tk => ⟨.int (if i < 0 then -i else i), H, I.tok _, ⟨_, rfl⟩, q⟩
theorem call_min2 (hc : X.calm = true) : CallR X (.builtin "min") (fun xs H Q => ∃ i j, xs = [.int i, .int j] ∧ Q (.int (if j < i then j else i)) H) := by
  intro pins s σ H xs us Q I r h
  obtain ⟨i, j, rfl, q⟩ := h
  obtain ⟨u, w', rfl, ⟨t, rfl⟩, ⟨t', rfl⟩⟩ := vals2 r
  refine min_two_ints (I.ok.hd hc) fun h' tk k => ⟨_, H, I.kept k, ?_, q⟩
  by_cases hj : j < i
  · rw [if_pos hj, if_pos hj]; exact ⟨_, rfl⟩
  · rw [if_neg hj, if_neg hj]; exact ⟨_, rfl⟩
theorem call_int1 : CallR X (.type "int") (fun xs H Q => (∃ i, xs = [.int i] ∧ Q (.int i) H) ∨ ∃ k, xs = [.bl k] ∧ Q (.int (if k then 1 else 0)) H) := by
  intro pins s σ H xs us Q I r h
  rcases h with ⟨i, rfl, q⟩ | ⟨k, rfl, q⟩
  · obtain ⟨u, rfl, t, rfl⟩ := vals1 r
    exact call_int_int ⟨.int i, H, I, ⟨_, rfl⟩, q⟩
  · obtain ⟨u, rfl, r1⟩ := vals1 r
    cases r1
    exact call_int_bool ⟨.int (if k then 1 else 0), H, I.tok _, ⟨_, rfl⟩, q⟩
end
end L2
namespace L2
open PySem PySem.Spec PyProof.Rows
theorem RelO.some_of {v : V} {o : Option Value} (r : RelO (some v) o) : ∃ u, o = some u ∧ RelV v u := by
  cases o with
  | none => exact (show False from r).elim
  | some u => exact ⟨u, rfl, r⟩
end L2
namespace L2
open PySem PySem.Spec PyProof.Rows
structure Room (k : Nat) (A : Around) : Prop where
  hd : A.handled = none
  dp : A.depth + 3 * k + 5 < recursionLimit
  un : A.units + 16 * k + 200 < cLine
theorem Room.mono {j k : Nat} {A : Around} (r : Room k A) (h : j ≤ k) : Room j A := ⟨r.hd, by have := r.dp; omega, by have := r.un; omega⟩
theorem Room.deeper {k : Nat} {A : Around} (r : Room (k + 1) A) (env : Env) : Room k (A.deeper env) :=
  ⟨r.hd, by have := r.dp; show A.depth + 1 + 3 * k + 5 < _; omega, by have := r.un; show A.units + 3 + 16 * k + 200 < _; omega⟩
theorem Room.depth {k : Nat} {A : Around} (r : Room k A) : A.depth < recursionLimit := by have := r.dp; omega
def tNil : TA := fun _ H Q => Q [] H
def tCons (ta : TE) (tr : TA) : TA := fun σ H Q => ta σ H fun x H1 => tr σ H1 fun xs H2 => Q (x :: xs) H2
section
variable {X : Cx} {e : Expr} {es : List Expr} {te : TE} {t : TA} {pos : Pos}
theorem pa_nil : PA X [] tNil := fun _ _ _ _ H Q I h => Calls.spliced_nil ⟨[], H, I, .nil, h⟩
theorem pa_cons (ha : PE X e te) (hr : PA X es t) (hs : starEach (e :: es) X.env = (false, eval e X.env) :: starEach es X.env := by rfl) : PA X (e :: es) (tCons te t) := by
  intro pos pins s σ H Q I h
  rw [hs]
  show wpAny _ _ (spliced ((false, eval e X.env) :: backTo pos (starEach es X.env))) _ _ s
  refine Calls.spliced_cons (thn (ha pins s σ H _ I h) fun u s1 ⟨x, H1, I1, r1, q1⟩ => ?_)
  exact thn (hr pos pins s1 σ H1 _ I1 q1) fun us s2 ⟨xs, H2, I2, r2, q2⟩ => ⟨x :: xs, H2, I2, .cons r1 r2, q2⟩

def tTup (t : TA) : TE := fun σ H Q => t σ H fun xs H1 => xs.length ≤ sizeLine ∧ ∀ p, H1 p = none → Q (.ref p) (upd H1 p (.tup xs))
def tLst (t : TA) : TE := fun σ H Q => t σ H fun xs H1 => xs.length ≤ sizeLine ∧ ∀ p, H1 p = none → Q (.ref p) (upd H1 p (.lst xs))
theorem pe_tup {x1} (h : PA X es t) : PE X (.Tuple es x1 pos) (tTup t) := by
  intro pins s σ H Q I hq
  refine wpAny_Tuple_spliced (thn (h pos pins s σ H _ I hq) fun us s1 ⟨xs, H1, I1, r, z, q⟩ => ⟨by rw [← r.length]; exact z, ?_⟩)
  have hf : H1 s1.heap.objs.size = none := I1.hok.fresh (Nat.le_refl _)
  refine ⟨.ref s1.heap.objs.size, upd H1 s1.heap.objs.size (.tup xs), I1.laid (t' := s1.toks) (fun b u e => Heap.get?_push_of_some _ e) (Nat.le_refl _) ?_, rfl, q _ hf⟩
  exact ⟨z, us, r, ⟨_, Heap.get?_push_size _ rfl, rfl, _, rfl⟩⟩
theorem pe_lst (h : PA X es t) : PE X (.List es pos) (tLst t) := by
  intro pins s σ H Q I hq
  refine wpAny_List_spliced (thn (h pos pins s σ H _ I hq) fun us s1 ⟨xs, H1, I1, r, z, q⟩ => ⟨by rw [← r.length]; exact z, ?_⟩)
  have hf : H1 s1.heap.objs.size = none := I1.hok.fresh (Nat.le_refl _)
  refine ⟨.ref s1.heap.objs.size, upd H1 s1.heap.objs.size (.lst xs), I1.laid (t' := s1.toks) (fun b u e => Heap.get?_push_of_some _ e) (Nat.le_refl _) ?_, rfl, q _ hf⟩
  exact ⟨z, us, 0, r, Heap.get?_push_size _ rfl⟩
end
abbrev Sp := List V → Hp → VK → XK → Prop
abbrev CXT := List Env → Hp → Shared → XK → Value → Shared → Prop

structure Env0 (P : Program) (w : World) (K : PySem.W.Frag) (mg : Str → Option Value) (base : Heap) (A : Around) (outer : List Env) (s : Shared) (H : Hp) : Prop where
  frames : A.frames = some outer
  mod : Mod K mg base
  bs : ∀ b o, base.get? b = some o → s.heap.get? b = some o ∧ H b = none
  bsz : base.objs.size ≤ s.heap.objs.size
  funs : s.heap.FunFrames base outer
  frf : ∀ b ∈ frs outer, H b = none
  hok : HOk P w H s.heap
  bare : AllBare s.gens
def CE (outer : List Env) (P : Program) (w : World) (H : Hp) (s : Shared) (Q : VK) (u : Value) (s' : Shared) : Prop :=
  ∃ v H', s'.os = s.os ∧ AllBare s'.gens ∧ Un (frs outer) [] H H' s.heap s'.heap ∧ HOk P w H' s'.heap ∧ RelV v u ∧ Q v H'
def CR (CX : CXT) (outer : List Env) (P : Program) (w : World) (H : Hp) (s : Shared) (Q : VK) (E : XK) (r : Result) (s' : Shared) : Prop :=
  match r with
  | .ok (.ret u) => CE outer P w H s Q u s'
  | .ok _ => False
  | .error e => CX outer H s E e s'
structure FnOk (P : Program) (w : World) (K : PySem.W.Frag) (mg : Str → Option Value) (base : Heap) (CX : CXT) (k : Nat) (f : Addr) (fd : FuncData) (ps : List Str) (sp : Sp) : Prop where
  len : ∀ vs H Q E, sp vs H Q E → vs.length = ps.length
  run : ∀ (A : Around) (outer : List Env) (s : Shared) (H : Hp) (args : Args) (us : List Value) (vs : List V) (Q : VK) (E : XK), Room k A → Env0 P w K mg base A outer s H → BindsTo s fd args (ps.zip us) → Vals vs us → sp vs H Q E →
    codeAny (model P w) A (.call (.ref f) args) (CR CX outer P w H s Q E) s
theorem FnOk.mono {P : Program} {w : World} {K : PySem.W.Frag} {mg : Str → Option Value} {base : Heap} {CX : CXT} {j k : Nat} {f : Addr} {fd : FuncData} {ps : List Str} {sp : Sp} (F : FnOk P w K mg base CX j f fd ps sp) (h : j ≤ k) :
    FnOk P w K mg base CX k f fd ps sp := ⟨F.len, fun A outer s H args us vs Q E hr => F.run A outer s H args us vs Q E (hr.mono h)⟩
theorem FnOk.imp {P : Program} {w : World} {K : PySem.W.Frag} {mg : Str → Option Value} {base : Heap} {CX : CXT} {k : Nat} {f : Addr} {fd : FuncData} {ps : List Str} {sp sp' : Sp} (F : FnOk P w K mg base CX k f fd ps sp)
    (h : ∀ vs H Q E, sp' vs H Q E → sp vs H Q E) : FnOk P w K mg base CX k f fd ps sp' :=
  ⟨fun vs H Q E q => F.len vs H Q E (h _ _ _ _ q), fun A outer s H args us vs Q E hr he hb hv hs => F.run A outer s H args us vs Q E hr he hb hv (h _ _ _ _ hs)⟩

section
variable {X : Cx} {pins : List (Addr × Obj)} {σ : St} {H : Hp} {s s' : Shared}
theorem Inv.env0 (I : Inv X pins σ H s) : Env0 X.prog X.w X.K X.mg X.base X.A X.stack s H :=
  ⟨I.ok.frames, I.ok.mod, I.bs, Nat.le_trans I.ok.bsz I.sz, I.stack, I.stkFree, I.hok, I.bare⟩
theorem Inv.after {Q : VK} {u : Value} (I : Inv X pins σ H s) (h : CE X.stack X.prog X.w H s Q u s') : EP X pins σ Q u s' := by
  obtain ⟨v, H', os, bare, un, hok, r, q⟩ := h
  obtain ⟨hh, g, d, t, os'⟩ := s'
  obtain rfl : os' = s.os := os
  exact ⟨v, H', I.call (h' := hh) (g' := g) (d' := d) (t' := t) (ch := []) un hok bare (fun b z => absurd z (by simp)), r, q⟩
end
def tCall (sp : Sp) (dvs : List V) (E : XK) (t : TA) : TE := fun σ H Q => t σ H fun vs H1 => sp (vs ++ dvs) H1 Q E
def Binds (K : PySem.W.Frag) (fd : FuncData) (ps : List Str) (ds : List Value) : Prop :=
  ∀ (s : Shared) (us : List Value), K.In s.heap → (us ++ ds).length = ps.length → BindsTo s fd ⟨us, []⟩ (ps.zip (us ++ ds))
theorem Binds.all {K : PySem.W.Frag} {fd : FuncData} {ps : List Str} (h : ∀ us : List Value, us.length = ps.length → bindArgs fd ⟨us, []⟩ = pure (ps.zip us)) : Binds K fd ps [] := fun s us _ hl => by
  rw [List.append_nil] at hl ⊢
  exact .of_eq (h us hl)

def Passes (CX : CXT) (X : Cx) (E : XK) : Prop := ∀ (pins : List (Addr × Obj)) (σ : St) (H : Hp) (s : Shared) (e : Value) (s' : Shared), Inv X pins σ H s → CX X.stack H s E e s' → X.xe e s'

section
variable {X : Cx} {CX : CXT} {k : Nat} {f C : Addr} {fd : FuncData} {ps : List Str} {sp : Sp} {dvs : List V} {ds : List Value} {E : XK} {x m : Str} {p pos apos : Pos} {e o : Expr} {es : List Expr} {ta : TE} {t : TA}
theorem run_fn {pins : List (Addr × Obj)} {σ : St} {H : Hp} {s : Shared} {Q : VK} {us : List Value} {vs : List V} (F : FnOk X.prog X.w X.K X.mg X.base CX k f fd ps sp) (hr : Room k X.A) (hb : Binds X.K fd ps ds) (hd : Vals dvs ds) (hx : Passes CX X E)
    (I : Inv X pins σ H s) (r : Vals vs us) (h : sp (vs ++ dvs) H Q E) : wpAny (model X.prog X.w) X.A (call (.ref f) us) (EP X pins σ Q) X.xe s := by
  have r2 : Vals (vs ++ dvs) (us ++ ds) := r.append hd
  have hl : (us ++ ds).length = ps.length := by rw [← r2.length]; exact F.len _ _ _ _ h
  refine wpAny_call (codeAny_mono (F.run X.A X.stack s H ⟨us, []⟩ (us ++ ds) (vs ++ dvs) Q E hr I.env0 (hb s us I.kIn hl) r2 h) fun r s' hq => ?_)
  cases r with
  | error e => exact hx pins σ H s e s' I hq
  | ok fl =>
    cases fl with
    | ret u => exact I.after hq
    | next => exact False.elim hq
    | brk => exact False.elim hq
    | cont => exact False.elim hq

theorem pe_call (F : FnOk X.prog X.w X.K X.mg X.base CX k f fd ps sp) (hr : Room k X.A) (hg : Gl X x) (hm : X.mg x = some (.ref f)) (hk : PySem.W.keepIn X.K (.ref f) = true) (hb : Binds X.K fd ps ds) (hd : Vals dvs ds) (hx : Passes CX X E)
    (ha : PA X (e :: es) t) (hdb : (x == ("__debug__" : Str)) = false := by decide) (he : starEach (e :: es) X.env = (false, eval e X.env) :: starEach es X.env := by rfl) (hpl : (backTo pos (starEach es X.env)).any (·.1) = false := by rfl) :
    PE X (.Call (.Name x p) (e :: es) [] pos) (tCall sp dvs E t) := by
  intro pins s σ H Q I h
  refine wpAny_Call_Name_kw (ld_glob I hg hm ?_ hdb)
  refine PySem.W.callWith_K (h₀ := X.base) I.ok.mod.kin hk (thn (ha pos pins s σ H _ I h) fun us s1 ⟨vs, H1, I1, r, q⟩ => ⟨I1.kIn, ?_⟩) he hpl
  exact run_fn F hr hb hd hx I1 r q
end
structure FnScope (N P : List Str) (sc : Scope) : Prop where
  kind : sc.kind = .function
  co : sc.isCoroutine = false
  gen : sc.isGenerator = false
  nd : N.Nodup
  pre : N.take P.length = P
  par : ∀ x ∈ P, sc.names.lookup x = some .local ∨ sc.names.lookup x = some .cell
  nofree : ∀ y ∈ sc.names, y.2 ≠ .free

theorem bindL_out {kindOf : Str → Option NameKind} {x : Str} : ∀ {binds : List (Str × Value)} {m : Str → Option Value}, (∀ v, (x, v) ∉ binds) → bindL kindOf binds m x = m x
  | [], _, _ => rfl
  | (n, v) :: r, m, h => by
    unfold bindL
    rw [bindL_out fun w hw => h w (List.mem_cons_of_mem _ hw)]
    split
    · have : x ≠ n := by rintro rfl; exact h v List.mem_cons_self
      simp [this]
    · rfl
theorem bindC_out {kindOf : Str → Option NameKind} {x : Str} : ∀ {binds : List (Str × Value)} {m : Str → Option Value}, (∀ v, (x, v) ∉ binds) → bindC kindOf binds m x = m x
  | [], _, _ => rfl
  | (n, v) :: r, m, h => by
    unfold bindC
    rw [bindC_out fun w hw => h w (List.mem_cons_of_mem _ hw)]
    split
    · rfl
    · have : x ≠ n := by rintro rfl; exact h v List.mem_cons_self
      simp [this]
theorem bindL_get {kindOf : Str → Option NameKind} {x : Str} {v : Value} : ∀ {P : List Str} {vs : List Value} {i : Nat} {m : Str → Option Value}, P.Nodup → P[i]? = some x → vs[i]? = some v → kindOf x = some .local →
    bindL kindOf (P.zip vs) m x = some v
  | [], _, _, _, _, h, _, _ => by simp at h
  | _ :: _, [], _, _, _, _, h, _ => by simp at h
  | p :: P, w :: vs, 0, m, nd, h1, h2, hk => by
    simp at h1 h2; subst h1; subst h2
    show bindL kindOf ((p, w) :: P.zip vs) m p = _
    unfold bindL
    rw [bindL_out fun v hv => (List.nodup_cons.mp nd).1 (List.of_mem_zip hv).1, if_pos hk]
    simp
  | p :: P, w :: vs, i + 1, m, nd, h1, h2, hk => by
    show bindL kindOf ((p, w) :: P.zip vs) m x = _
    unfold bindL
    exact bindL_get (i := i) (List.nodup_cons.mp nd).2 (by simpa using h1) (by simpa using h2) hk
theorem bindC_get {kindOf : Str → Option NameKind} {x : Str} {v : Value} : ∀ {P : List Str} {vs : List Value} {i : Nat} {m : Str → Option Value}, P.Nodup → P[i]? = some x → vs[i]? = some v → kindOf x ≠ some .local →
    bindC kindOf (P.zip vs) m x = some v
  | [], _, _, _, _, h, _, _ => by simp at h
  | _ :: _, [], _, _, _, _, h, _ => by simp at h
  | p :: P, w :: vs, 0, m, nd, h1, h2, hk => by
    simp at h1 h2; subst h1; subst h2
    show bindC kindOf ((p, w) :: P.zip vs) m p = _
    unfold bindC
    rw [bindC_out fun v hv => (List.nodup_cons.mp nd).1 (List.of_mem_zip hv).1, if_neg hk]
    simp
  | p :: P, w :: vs, i + 1, m, nd, h1, h2, hk => by
    show bindC kindOf ((p, w) :: P.zip vs) m x = _
    unfold bindC
    exact bindC_get (i := i) (List.nodup_cons.mp nd).2 (by simpa using h1) (by simpa using h2) hk

def start (N : List Str) (vs : List V) : St := vs.map some ++ List.replicate (N.length - vs.length) none

def cxOf (CX : CXT) (P : Program) (w : World) (K : PySem.W.Frag) (mg : Str → Option Value) (base : Heap) (N : List Str) (qual : Str) (scope : Scope) (f : Addr) (cd : Value) (A : Around) (outer : List Env) (s : Shared) (H : Hp) (E : XK) : Cx where
  prog := P
  w := w
  K := K
  mg := mg
  base := base
  A := A.deeper (envOfC qual scope s.heap.objs.size f cd)
  N := N
  s₀ := s
  H₀ := H
  env := envOfC qual scope s.heap.objs.size f cd
  outer := outer
  stack := envOfC qual scope s.heap.objs.size f cd :: outer
  ex := []
  calm := true
  fn := fun _ => true
  pn := []
  xe := fun e s' => wpAny (model P w) (A.deeper (envOfC qual scope s.heap.objs.size f cd)) (leaving (envOfC qual scope s.heap.objs.size f cd) e) (fun _ s'' => CX outer H s E e s'') (fun e' s'' => CX outer H s E e' s'') s'

theorem cell_has {sc : Scope} {n : Nat} {x : Str} (h : sc.names.lookup x = some .cell) : ∃ c, (cellsFrom n sc.names []).lookup x = some c := by
  have q := PySem.W.cellsFrom_some sc.names n [] (.inl h)
  exact Option.isSome_iff_exists.mp q

theorem inv_start {CX : CXT} {P : Program} {w : World} {K : PySem.W.Frag} {mg : Str → Option Value} {base : Heap} {N ps : List Str} {qual : Str} {scope : Scope} {f : Addr} {cd : Value} {A : Around} {outer : List Env} {s s1 : Shared} {H : Hp} {E : XK} {us : List Value} {vs : List V}
    (S : FnScope N ps scope) (hd : A.handled = none) (e0 : Env0 P w K mg base A outer s H) (hl : vs.length = ps.length) (r : Vals vs us)
    (x : InCallC s s.heap.objs.size (bindL (envOfC qual scope s.heap.objs.size f cd).kindOf (ps.zip us) fun _ => none) (cellsFrom (s.heap.objs.size + 1) scope.names []) (bindC (envOfC qual scope s.heap.objs.size f cd).kindOf (ps.zip us) fun _ => none) s1) :
    Inv (cxOf CX P w K mg base N qual scope f cd A outer s H E) [] (start N vs) H s1 := by
  have hpl : ps.length ≤ N.length := by have := congrArg List.length S.pre; rw [List.length_take] at this; omega
  obtain ⟨h1, tk, rfl, hk⟩ := x.done
  have noA : ∀ b : Addr, b ∉ (cxOf CX P w K mg base N qual scope f cd A outer s H E).ex := fun b z => absurd (show b ∈ ([] : List Addr) from z) (by simp)
  refine ⟨⟨e0.mod, S.kind, rfl, rfl, Nat.le_refl _, fun y z c h1 h2 => ?_, fun y hy => ?_, fun y c _ h => ?_, fun _ => hd, Around.frames_deeper e0.frames, .inr ⟨rfl, rfl⟩, fun b z => absurd z (noA b), e0.bs, e0.bsz, fun b _ _ => noA b, fun b z => absurd z (noA b), e0.funs, e0.frf⟩,
    rfl, e0.bare, Un.kept hk, ⟨_, x.toInCall.ns, fun i y v h1 h2 h3 => ?_⟩, fun y c h => ⟨_, x.cell y c h⟩, e0.hok.fresh (Nat.le_refl _), fun y c h => ?_, fun p hp => absurd (show p ∈ ([] : List (Addr × Obj)) from hp) (by simp), e0.hok.kept hk, ?_⟩
  · exact name_of_addr x.apart (PySem.mem_of_lookup h1) (PySem.mem_of_lookup h2)
  · have hy : scope.names.lookup y = some .cell ∨ scope.names.lookup y = some .free := hy
    rcases hy with hy | hy
    · exact cell_has hy
    · exact absurd rfl (S.nofree _ (PySem.mem_of_lookup hy))
  · exact Nat.le_of_lt (x.above y c (PySem.mem_of_lookup h))
  · have hi : i < vs.length := by
      unfold start at h2
      by_cases hi : i < vs.length
      · exact hi
      · rw [List.getElem?_append_right (by simpa using hi)] at h2
        rw [List.getElem?_replicate] at h2
        split at h2 <;> cases h2
    have ha : vs[i]? = some v := by
      unfold start at h2
      rw [List.getElem?_append_left (by simpa using hi), List.getElem?_map] at h2
      cases e : vs[i]? with
      | none => rw [e] at h2; cases h2
      | some a => rw [e] at h2; cases h2; rfl
    obtain ⟨u, hu, rv⟩ := r.get ha
    have hp : ps[i]? = some y := by
      rw [← S.pre, List.getElem?_take_of_lt (by omega)]; exact h1
    have ndP : ps.Nodup := by rw [← S.pre]; exact S.nd.sublist (List.take_sublist _ _)
    refine ⟨u, rv, ?_⟩
    rcases S.par y (List.mem_of_getElem? hp) with k | k
    · exact .inl ⟨k, bindL_get ndP hp hu k⟩
    · obtain ⟨c, e⟩ := cell_has (n := s.heap.objs.size + 1) k
      refine .inr ⟨.inl k, c, e, ?_⟩
      have q := x.cell y c e
      rw [bindC_get ndP hp hu (by show scope.names.lookup y ≠ _; rw [k]; decide)] at q
      exact q
  · exact e0.hok.fresh (Nat.le_of_lt (x.above y c (PySem.mem_of_lookup h)))
  · unfold start
    show _ = N.length
    rw [List.length_append, List.length_map, List.length_replicate]
    omega

theorem fn_of {CX : CXT} {P : Program} {w : World} {K : PySem.W.Frag} {mg : Str → Option Value} {base : Heap} {k : Nat} {f : Addr} {name qual : Str} {params : Arguments} {body : List Stmt} {scope : Scope} {dV kV doc pm cdv ct oc : Value} {an od : Option Addr}
    {osl : Array (Option Value)} {N ps : List Str} {sp : Sp} (lk : K.lookup f = some ⟨oc, od, .func (PySem.W.fnOf name qual params body scope dV kV doc pm an cdv ct), osl⟩) (hcd : PySem.W.codeIn K cdv qual = true) (S : FnScope N ps scope)
    (len : ∀ vs H Q E, sp vs H Q E → vs.length = ps.length)
    (hbody : ∀ (A : Around) (outer : List Env) (s : Shared) (H : Hp) (vs : List V) (Q : VK) (E : XK), Room k (A.deeper (envOfC qual scope s.heap.objs.size f cdv)) → sp vs H Q E →
      ∃ t, PSs (cxOf CX P w K mg base N qual scope f cdv A outer s H E) body t ∧ t { nx := fun _ H' => Q .non H', rt := Q } (start N vs) H) :
    FnOk P w K mg base CX (k + 1) f (PySem.W.fnOf name qual params body scope dV kV doc pm an cdv ct) ps sp := by
  refine ⟨len, fun A outer s H args us vs Q E hr e0 hb r hsp => ?_⟩
  have hl := len _ _ _ _ hsp
  have KX : K.In s.heap := e0.mod.kin.keeps fun b o e => (e0.bs b o e).1
  have lim : s.heap.NoLimit := e0.mod.nolimit.keeps fun b o e => (e0.bs b o e).1
  have hkind : ∀ y ∈ ps.zip us, scope.names.lookup y.1 = some .local ∨ (scope.names.lookup y.1 = some .cell ∧ ((cellsFrom (s.heap.objs.size + 1) scope.names []).lookup y.1).isSome = true) := fun ⟨n, v⟩ hy => by
    rcases S.par n (List.of_mem_zip hy).1 with q | q
    · exact .inl q
    · exact .inr ⟨q, PySem.W.cellsFrom_some _ _ _ (.inl q)⟩
  refine codeAny_call_function hr.depth (KX _ _ lk) rfl S.co S.gen rfl (PySem.W.codeRec_of KX hcd) (hb _ _ _ _ ?_)
  refine wpAny_newFunctionEnv_cells S.kind hkind fun env he s1 x => ?_
  subst he
  refine ⟨lim.keeps x.toInCall.keep, codeAny_func ?_⟩
  obtain ⟨t, ht, hq⟩ := hbody A outer s H vs Q E (hr.deeper _) hsp
  have I : Inv (cxOf CX P w K mg base N qual scope f cdv A outer s H E) [] (start N vs) H s1 := inv_start S hr.hd e0 hl r x
  refine wpAny_mono (ht [] s1 (start N vs) H _ I hq) (fun fl s' hs => ?_) fun e s' hs => hs
  have fin : ∀ {σ' : St} {H' : Hp} {v : V} {u : Value}, Inv (cxOf CX P w K mg base N qual scope f cdv A outer s H E) [] σ' H' s' → RelV v u → Q v H' → CE outer P w H s Q u s' :=
    fun {σ' H' v u} J rv q => ⟨v, H', J.os, J.bare, J.base, J.hok, rv, q⟩
  cases fl with
  | ret u =>
    obtain ⟨v, σ', H', J, rv, q⟩ := hs
    exact fin J rv q
  | next =>
    obtain ⟨σ', H', J, q⟩ := hs
    exact fin (v := V.non) (u := Value.none) J rfl q
  | brk =>
    obtain ⟨_, _, _, q⟩ := hs
    exact False.elim q
  | cont =>
    obtain ⟨_, _, _, q⟩ := hs
    exact False.elim q
end L2
namespace L2
open PySem PySem.Spec PyProof.Rows
section
variable {X : Cx} {x : Str} {p pos : Pos} {e : Expr} {es : List Expr} {t : TA} {id T : String} {r : List V → Hp → VK → Prop}
def tCB (r : List V → Hp → VK → Prop) (t : TA) : TE := fun σ H Q => t σ H fun vs H1 => r vs H1 Q
theorem pe_callB (hc : CallR X (.builtin id) r) (hg : Gl X x) (hm : X.mg x = none) (hv : bootBuiltins x = some (.builtin id)) (ha : PA X (e :: es) t) (hn : x ≠ "__name__" := by decide) (hdb : (x == ("__debug__" : Str)) = false := by decide)
    (he : starEach (e :: es) X.env = (false, eval e X.env) :: starEach es X.env := by rfl) (hpl : (backTo pos (starEach es X.env)).any (·.1) = false := by rfl) : PE X (.Call (.Name x p) (e :: es) [] pos) (tCB r t) := by
  intro pins s σ H Q I h
  refine wpAny_Call_Name_kw (ld_blt I hg hm hv ?_ hn hdb)
  exact PyProof.Rows.callWith_builtin1 (thn (ha pos pins s σ H _ I h) fun us s1 ⟨vs, H1, I1, r1, q1⟩ => hc pins s1 σ H1 vs us Q I1 r1 q1) he hpl
theorem pe_callTy (hc : CallR X (.type T) r) (hg : Gl X x) (hm : X.mg x = none) (hv : bootBuiltins x = some (.type T)) (ha : PA X (e :: es) t) (hn : x ≠ "__name__" := by decide) (hdb : (x == ("__debug__" : Str)) = false := by decide)
    (he : starEach (e :: es) X.env = (false, eval e X.env) :: starEach es X.env := by rfl) (hpl : (backTo pos (starEach es X.env)).any (·.1) = false := by rfl) : PE X (.Call (.Name x p) (e :: es) [] pos) (tCB r t) := by
  intro pins s σ H Q I h
  refine wpAny_Call_Name_kw (ld_blt I hg hm hv ?_ hn hdb)
  exact PyProof.Rows.callWith_type1 (thn (ha pos pins s σ H _ I h) fun us s1 ⟨vs, H1, I1, r1, q1⟩ => hc pins s1 σ H1 vs us Q I1 r1 q1) he hpl
end
end L2
namespace HT
open PySem PyProof.Rows
section
variable {prog : Program} {w : World} {A : Around} {E : Value → Shared → Prop} {s : Shared}
theorem cat_tup {t b : Addr} {vs ws : List Value} {Q : Value → Shared → Prop} (ht : IsTup s.heap t vs.toArray) (hb : IsTup s.heap b ws.toArray) (hv : vs ≠ [])
    (h1 : ws = [] → Q (.ref t) s) (h2 : ws ≠ [] → Q (.ref s.heap.objs.size) { s with heap := s.heap.push { cls := .type "tuple", data := .seq (vs ++ ws).toArray } })
    (hsz : vs.length + ws.length ≤ sizeLine) : wpAny (model prog w) A (binaryOp .Add (.ref t) (.ref b)) Q E s := by
  obtain ⟨⟨cls, dd, data, sl⟩, ho, hc, n, hd⟩ := id ht
  obtain ⟨⟨cls2, dd2, data2, sl2⟩, ho2, hc2, n2, hd2⟩ := id hb
  simp only at hc hd hc2 hd2
  subst hc hd hc2 hd2
  have e : vs.toArray ++ ws.toArray = (vs ++ ws).toArray := by simp
  by_cases hw : ws = []
  · exact concat_meets ⟨_, ho, rfl⟩ ⟨_, ho2, rfl⟩ noFill_tuple_add seq_tuple_add PySem.F.slot_tuple_add PySem.F.entry_tuple_add (PySem.F.args_tuple_add_2 _ _)
      (tuple_addW1 t b vs.toArray ws.toArray n n2 dd dd2 sl sl2 (by simpa using hv) (by simp [hw])) ⟨ho, ho2, h1 hw⟩
  · refine concat_meets ⟨_, ho, rfl⟩ ⟨_, ho2, rfl⟩ noFill_tuple_add seq_tuple_add PySem.F.slot_tuple_add PySem.F.entry_tuple_add (PySem.F.args_tuple_add_2 _ _)
      (tuple_addW2 t b vs.toArray ws.toArray n n2 dd dd2 sl sl2 (by simpa using hv) (by simpa using hw) (by rw [List.size_toArray, List.size_toArray]; exact hsz)) ⟨ho, ho2, ?_⟩
    rw [e]
    exact h2 hw

def sIx (n d : Nat) : Option Int → Nat
  | none => d
  | some v => if v < 0 then (v + (n : Int)).toNat else min v.toNat n
theorem sIx_none (n d : Nat) : sIx n d none = d := rfl
theorem sIx_nat (n d k : Nat) : sIx n d (some (k : Int)) = min k n := by
  show (if (k : Int) < 0 then ((k : Int) + (n : Int)).toNat else min (k : Int).toNat n) = min k n
  rw [if_neg (by omega), Int.toNat_natCast]
theorem sIx_le (n d : Nat) (hd : d ≤ n) (o : Option Int) : sIx n d o ≤ n := by
  cases o with
  | none => exact hd
  | some v =>
    show (if v < 0 then (v + (n : Int)).toNat else min v.toNat n) ≤ n
    by_cases hv : v < 0
    · rw [if_pos hv]; omega
    · rw [if_neg hv]; exact Nat.min_le_right _ _
theorem clip_eq (v : Int) (n d : Nat) : (if v < 0 then max (v + (n : Int)) 0 else min v (n : Int)) = ((sIx n d (some v) : Nat) : Int) := by
  show (if v < 0 then max (v + (n : Int)) 0 else min v (n : Int)) = (((if v < 0 then (v + (n : Int)).toNat else min v.toNat n) : Nat) : Int)
  by_cases hv : v < 0
  · simp only [if_pos hv]; omega
  · simp only [if_neg hv]; omega
theorem adjust_gen (lo hi : Option Int) (n : Nat) : Builtin.Slice.sliceAdjust lo hi 1 (n : Int) = (((sIx n 0 lo : Nat) : Int), ((sIx n n hi : Nat) : Int)) := by
  have h1 : ¬ ((1 : Int) < 0) := by omega
  unfold Builtin.Slice.sliceAdjust
  simp only [h1, if_false]
  refine Prod.ext ?_ ?_
  · cases lo with
    | none => rfl
    | some v => exact clip_eq v n 0
  · cases hi with
    | none => rfl
    | some v => exact clip_eq v n n
theorem places_gen (i j : Nat) : Builtin.Slice.slicePlaces (i : Int) (j : Int) 1 = j - i := by
  unfold Builtin.Slice.slicePlaces
  have h1 : (1 : Int) > 0 := by omega
  simp only [h1, if_true, Int.ediv_one]
  split <;> omega
theorem slicePart_ {v : Value} {o : Option Int} {Q : Option Int → Shared → Prop} (p : IsPart v o) (h : Q o s) : wpAny (model prog w) A (Builtin.Slice.slicePartIndex v) Q E s := by
  cases p with
  | none => exact slicePart_none h
  | int i t => exact slicePart_int h
theorem sliceApplied_gen {sl : Addr} {vl vu : Value} {lo hi : Option Int} {n : Nat} {Q : Int × Int × Nat → Shared → Prop} (hs : s.heap.IsSliceOf sl vl vu .none) (pl : IsPart vl lo) (pu : IsPart vu hi)
    (h : Q (((sIx n 0 lo : Nat) : Int), 1, sIx n n hi - sIx n 0 lo) s) : wpAny (model prog w) A (Builtin.Slice.sliceApplied (.ref sl) (pure (n : Int))) Q E s := by
  obtain ⟨os, hos, hcs, hds⟩ := id hs
  unfold Builtin.Slice.sliceApplied Builtin.Slice.sliceFields
  refine wpAny_bind (wpAny_bind (wpAny_field hos hds (x := vl) rfl (wpAny_bind (wpAny_field hos hds (x := vu) rfl (wpAny_bind (wpAny_field hos hds (x := .none) rfl (wpAny_pure ?_)))))))
  refine wpAny_bind (slicePart_none ?_)
  show wpAny _ _ (if ((1 : Int) == 0) = true then _ else _) _ _ s
  rw [if_neg (by decide)]
  refine wpAny_bind (slicePart_ pl (wpAny_bind (slicePart_ pu (wpAny_bind (wpAny_pure ?_)))))
  show wpAny _ _ (match Builtin.Slice.sliceAdjust lo hi 1 (n : Int) with | (lo, hi) => pure (lo, (1 : Int), Builtin.Slice.slicePlaces lo hi 1)) _ _ s
  rw [adjust_gen lo hi n]
  show wpAny _ _ (pure (((sIx n 0 lo : Nat) : Int), (1 : Int), Builtin.Slice.slicePlaces ((sIx n 0 lo : Nat) : Int) ((sIx n n hi : Nat) : Int) 1)) _ _ s
  rw [places_gen]
  exact wpAny_pure h
theorem pick_gen (xs : Array Value) (i k : Nat) : ((List.range k).filterMap fun (m : Nat) => xs[((i : Int) + (m : Int) * 1).toNat]?).toArray = ((xs.toList.drop i).take k).toArray := by
  have e : (fun (m : Nat) => xs[((i : Int) + (m : Int) * 1).toNat]?) = fun m => xs[i + m]? := by
    funext m
    have : ((i : Int) + (m : Int) * 1).toNat = i + m := by omega
    rw [this]
  rw [e]
  have := pick_run xs i k
  rw [List.filterMap_map] at this
  have e2 : ((fun x => xs[x]?) ∘ fun x => i + x) = fun m => xs[i + m]? := rfl
  rw [e2] at this
  rw [this]

theorem getItem_tuple_cut {t sl : Addr} {items : Array Value} {vl vu : Value} {lo hi : Option Int} {Q : Value → Shared → Prop} (ht : IsTup s.heap t items) (hs : s.heap.IsSliceOf sl vl vu .none) (pl : IsPart vl lo) (pu : IsPart vu hi)
    (hw : ¬ (sIx items.size 0 lo = 0 ∧ sIx items.size items.size hi = items.size))
    (h : Q (.ref s.heap.objs.size) { s with heap := s.heap.push { cls := .type "tuple", data := .seq ((items.toList.drop (sIx items.size 0 lo)).take (sIx items.size items.size hi - sIx items.size 0 lo)).toArray } })
    (hsz : items.size ≤ sizeLine) : wpAny (model prog w) A (getItem (.ref t) (.ref sl)) Q E s := by
  have htake : sizeOk (.seq ((items.toList.drop (sIx items.size 0 lo)).take (sIx items.size items.size hi - sIx items.size 0 lo)).toArray) := by
    show ((items.toList.drop (sIx items.size 0 lo)).take (sIx items.size items.size hi - sIx items.size 0 lo)).toArray.size ≤ sizeLine
    rw [List.size_toArray, List.length_take, List.length_drop, Array.length_toList]
    omega
  have hj : sIx items.size items.size hi ≤ items.size := sIx_le _ _ (Nat.le_refl _) hi
  obtain ⟨os, hos, hcs, hds⟩ := id hs
  have hTs : s.TypeIs (.ref sl) "slice" := ⟨os, hos, hcs⟩
  unfold getItem
  try with_reducible refine wpAny_holding ?_
  first | refine wpAny_bind (wpAny_pure ?_) | skip
  refine wpAny_bind (wpAny_sequenceKey ht.typeIs (by decide) ?_)
  refine wpAny_bind (wpAny_callSpecial?_slot (name := Str.ofString "__getitem__") ht.typeIs PyProof.Rows.slot_tuple_getitem
    (wpAny_call_entry PyProof.Rows.slot_tuple_getitem ht.typeIs entry_tuple_getitem ?_ (args_tuple_getitem _ _)))
  show wpAny _ _ (Builtin.Tuple.tupleItemsOf (.ref t) >>= _) _ _ s
  refine wpAny_bind (tupleItemsOf_ ht ?_)
  refine wpAny_bind (wpAny_typeOf hTs ?_)
  rw [if_pos (by decide)]
  refine wpAny_bind (sliceApplied_gen hs pl pu ?_)
  have hno : ¬ ((((sIx items.size 0 lo : Nat) : Int) == 0 && (1 : Int) == 1 && (sIx items.size items.size hi - sIx items.size 0 lo) == items.size) = true) := by
    intro q
    rw [Bool.and_eq_true, Bool.and_eq_true] at q
    have q1 : ((sIx items.size 0 lo : Nat) : Int) = 0 := eq_of_beq q.1.1
    have q2 : sIx items.size items.size hi - sIx items.size 0 lo = items.size := eq_of_beq q.2
    exact hw ⟨by omega, by omega⟩
  show wpAny _ _ (if (((sIx items.size 0 lo : Nat) : Int) == 0 && (1 : Int) == 1 && (sIx items.size items.size hi - sIx items.size 0 lo) == items.size) = true then _ else _) _ _ s
  rw [if_neg hno, pick_gen]
  first
    | exact wpAny_bind (m := Builtin.Tuple.tupleExact _) (wpAny_newObj_type (wpAny_pure ⟨_, rfl, wpAny_pure h⟩) htake)
    | exact wpAny_bind (m := Builtin.Tuple.tupleExact _) (wpAny_newObj_type (wpAny_bind (wpAny_pure (wpAny_pure ⟨_, rfl, wpAny_pure h⟩))) htake)
    | exact wpAny_bind (wpAny_bind (m := Builtin.Tuple.tupleExact _) (wpAny_newObj_type (wpAny_pure (wpAny_pure ⟨_, rfl, wpAny_pure h⟩)) htake))
    | exact wpAny_bind (wpAny_bind (m := Builtin.Tuple.tupleExact _) (wpAny_newObj_type (wpAny_pure ⟨_, rfl, wpAny_pure h⟩) htake))
end
end HT
namespace L2
open PySem PySem.Spec PyProof.Rows
abbrev TO := St → Hp → (Option Int → Hp → Prop) → Prop
def PO (X : Cx) (e : Option Expr) (t : TO) : Prop :=
  ∀ (pins : List (Addr × Obj)) (s : Shared) (σ : St) (H : Hp) (Q : Option Int → Hp → Prop), Inv X pins σ H s → t σ H Q →
    wpAny (model X.prog X.w) X.A (evalPart e X.env) (fun u s' => ∃ o H', Inv X pins σ H' s' ∧ IsPart u o ∧ Q o H') X.xe s
def tNoPart : TO := fun _ H Q => Q none H
def tPart (t : TE) : TO := fun σ H Q => t σ H fun x H1 => ∃ i, x = .int i ∧ Q (some i) H1

section
variable {X : Cx} {e : Expr} {te : TE} {lo hi : Option Expr} {tl th : TO} {pos p2 : Pos}
theorem po_none : PO X none tNoPart := by
  intro pins s σ H Q I h
  rw [evalPart_none]
  exact wpAny_pure ⟨none, H, I, .none, h⟩
theorem po_some (h : PE X e te) : PO X (some e) (tPart te) := by
  intro pins s σ H Q I hw
  rw [evalPart_some]
  refine thn (h pins s σ H _ I hw) fun u s1 ⟨x, H1, I1, r1, q1⟩ => ?_
  obtain ⟨i, rfl, q⟩ := q1
  obtain ⟨t, rfl⟩ := r1
  exact ⟨some i, H1, I1, .int i t, q⟩

def SlR (X : Cx) (r : V → Option Int → Option Int → Hp → VK → Prop) : Prop :=
  ∀ (pins : List (Addr × Obj)) (s : Shared) (σ : St) (H : Hp) (x : V) (v vl vu : Value) (lo hi : Option Int) (sl : Addr) (Q : VK), Inv X pins σ H s → RelV x v → s.heap.IsSliceOf sl vl vu .none → IsPart vl lo → IsPart vu hi → r x lo hi H Q →
    ∃ T id, typeLookup (.type T) "__getitem__" = pure (some (.builtin id)) ∧ s.TypeIs v T ∧ wpAny (model X.prog X.w) X.A (getItem v (.ref sl)) (EP X pins σ Q) X.xe s
theorem SlR.or {r r' : V → Option Int → Option Int → Hp → VK → Prop} (h : SlR X r) (h' : SlR X r') : SlR X (fun x lo hi H Q => r x lo hi H Q ∨ r' x lo hi H Q) := by
  intro pins s σ H x v vl vu lo hi sl Q I rx hs pl pu q
  rcases q with q | q
  · exact h pins s σ H x v vl vu lo hi sl Q I rx hs pl pu q
  · exact h' pins s σ H x v vl vu lo hi sl Q I rx hs pl pu q
def tSl (r : V → Option Int → Option Int → Hp → VK → Prop) (te : TE) (tl th : TO) : TE := fun σ H Q => te σ H fun x H1 => tl σ H1 fun l H2 => th σ H2 fun u H3 => r x l u H3 Q
theorem pe_slice {r : V → Option Int → Option Int → Hp → VK → Prop} (hr : SlR X r) (he : PE X e te) (hl : PO X lo tl) (hu : PO X hi th) : PE X (.Subscript e (.Slice lo hi none p2) pos) (tSl r te tl th) := by
  intro pins s σ H Q I h
  refine Subscript_ (thn (he pins s σ H _ I h) fun v s1 ⟨x, H1, I1, r1, q1⟩ => ?_)
  refine wpAny_Slice (thn (hl pins s1 σ H1 _ I1 q1) fun vl s2 ⟨l, H2, I2, pl, q2⟩ => thn (hu pins s2 σ H2 _ I2 q2) fun vu s3 ⟨u, H3, I3, pu, q3⟩ => ?_)
  rw [evalPart_none]
  refine wpAny_pure ?_
  have I4 : Inv X pins σ H3 { s3 with heap := s3.heap.push { cls := .type "slice", data := .fields #[vl, vu, .none] } } := I3.kept (t' := s3.toks) fun b ob q => Heap.get?_push_of_some _ q
  obtain ⟨T, id, hT, ht, hg⟩ := hr pins { s3 with heap := s3.heap.push { cls := .type "slice", data := .fields #[vl, vu, .none] } } σ H3 x v vl vu l u s3.heap.objs.size Q I4 r1 (Heap.IsSliceOf.new ..) pl pu q3
  show wpAny (model X.prog X.w) X.A (subscriptTail e (.Slice lo hi none p2) v (.ref s3.heap.objs.size)) (EP X pins σ Q) X.xe { s3 with heap := s3.heap.push { cls := .type "slice", data := .fields #[vl, vu, .none] } }
  exact tail_any (ops := [.ref s3.heap.objs.size, v]) ht hT hg (by with_unfolding_all rfl)

def cutV (xs : List V) (lo hi : Option Int) : List V := (xs.drop (HT.sIx xs.length 0 lo)).take (HT.sIx xs.length xs.length hi - HT.sIx xs.length 0 lo)
theorem cutV_length (xs : List V) (lo hi : Option Int) : (cutV xs lo hi).length ≤ xs.length := by
  unfold cutV
  rw [List.length_take, List.length_drop]
  omega
def rSlT (K : PySem.W.Frag) : V → Option Int → Option Int → Hp → VK → Prop := fun x lo hi H Q => ∃ a xs, x = .ref a ∧ SqT K H a xs ∧
  ¬ (HT.sIx xs.length 0 lo = 0 ∧ HT.sIx xs.length xs.length hi = xs.length) ∧ ∀ p, H p = none → Q (.ref p) (upd H p (.tup (cutV xs lo hi)))
theorem sl_tup : SlR X (rSlT X.K) := by
  intro pins s σ H x v vl vu lo hi sl Q I rx hs pl pu h
  obtain ⟨a, xs, rfl, hx, hw, q⟩ := h
  cases rx
  obtain ⟨its, r, ht, hz⟩ := I.tuple hx
  have hlen : its.toArray.size = xs.length := by rw [List.size_toArray]; exact r.length.symm
  refine ⟨"tuple", _, PyProof.Rows.slot_tuple_getitem.lookup, ht.typeIs, ?_⟩
  refine HT.getItem_tuple_cut ht hs pl pu (by rw [hlen]; exact hw) ?_ (by rw [hlen]; exact hz)
  rw [hlen]
  refine ⟨.ref s.heap.objs.size, _, I.laid (t' := s.toks) (o := .tup (cutV xs lo hi)) (fun b ob q => Heap.get?_push_of_some _ q) (Nat.le_refl _) ?_, rfl, q _ (I.hok.fresh (Nat.le_refl _))⟩
  exact ⟨Nat.le_trans (cutV_length xs lo hi) hz, _, (r.drop (HT.sIx xs.length 0 lo)).take (HT.sIx xs.length xs.length hi - HT.sIx xs.length 0 lo), IsTup.new _ _⟩

def rCatT (K : PySem.W.Frag) : R2 := fun x y H Q => ∃ a b xs ys, x = .ref a ∧ y = .ref b ∧ SqT K H a xs ∧ SqT K H b ys ∧ xs ≠ [] ∧ xs.length + ys.length ≤ sizeLine ∧
  (ys = [] → Q (.ref a) H) ∧ (ys ≠ [] → ∀ p, H p = none → Q (.ref p) (upd H p (.tup (xs ++ ys))))
theorem Vals.nil_iff {xs : List V} {us : List Value} (r : Vals xs us) : us = [] ↔ xs = [] := by
  cases r with
  | nil => simp
  | cons _ _ => simp
theorem op_catT : OpR X (binaryOp .Add) (rCatT X.K) := by
  intro pins s σ H x y v u Q I rx ry h
  obtain ⟨a, b, xs, ys, rfl, rfl, ha, hb, hx, hz, q1, q2⟩ := h
  cases rx
  cases ry
  obtain ⟨its, r1, p1, _⟩ := I.tuple ha
  obtain ⟨its2, r2, p2, _⟩ := I.tuple hb
  refine HT.cat_tup p1 p2 (fun z => hx (r1.nil_iff.mp z)) (fun z => ⟨.ref a, H, I, rfl, q1 (r2.nil_iff.mp z)⟩) (fun z => ?_) (by rw [← r1.length, ← r2.length]; exact hz)
  refine ⟨.ref s.heap.objs.size, _, I.laid (t' := s.toks) (o := .tup (xs ++ ys)) (fun b ob q => Heap.get?_push_of_some _ q) (Nat.le_refl _) ?_, rfl, q2 (fun w => z (r2.nil_iff.mpr w)) _ (I.hok.fresh (Nat.le_refl _))⟩
  exact ⟨by rw [List.length_append]; exact hz, _, r1.append r2, IsTup.new _ _⟩
end
end L2
namespace L2
open PySem PySem.Spec PyProof.Rows
def ixN (n : Nat) (i : Int) : Option Nat := if 0 ≤ i then (if i < n then some i.toNat else none) else if -(n : Int) ≤ i then some (i + n).toNat else none
def atI {α : Type} (xs : List α) (i : Int) : Option α := (ixN xs.length i).bind fun j => xs[j]?
theorem ixN_seq {n : Nat} {i : Int} {j : Nat} (h : ixN n i = some j) : seqIndex? i n = some j ∧ j < n ∧ -(n : Int) ≤ i ∧ i < n := by
  unfold ixN at h
  by_cases h0 : 0 ≤ i
  · rw [if_pos h0] at h
    by_cases h1 : i < n
    · rw [if_pos h1] at h
      have e : i.toNat = j := Option.some.inj h
      exact ⟨by rw [seqIndex_of h0 h1, e], by omega, by omega, h1⟩
    · rw [if_neg h1] at h; cases h
  · rw [if_neg h0] at h
    by_cases h1 : -(n : Int) ≤ i
    · rw [if_pos h1] at h
      have e : (i + n).toNat = j := Option.some.inj h
      exact ⟨by rw [seqIndex_neg (by omega) h1, e], by omega, h1, by omega⟩
    · rw [if_neg h1] at h; cases h
theorem atI_get {α : Type} {xs : List α} {i : Int} {v : α} (h : atI xs i = some v) : ∃ j, seqIndex? i xs.length = some j ∧ xs[j]? = some v ∧ j < xs.length ∧ -(xs.length : Int) ≤ i ∧ i < xs.length := by
  unfold atI at h
  cases e : ixN xs.length i with
  | none => rw [e] at h; cases h
  | some j =>
    rw [e] at h
    obtain ⟨h1, h2, h3, h4⟩ := ixN_seq e
    exact ⟨j, h1, h, h2, h3, h4⟩
theorem atI_nat {α : Type} {xs : List α} {j : Nat} {v : α} (h : xs[j]? = some v) : atI xs (j : Int) = some v := by
  have hj : j < xs.length := (List.getElem?_eq_some_iff.mp h).1
  have e : ixN xs.length (j : Int) = some j := by
    unfold ixN
    rw [if_pos (by omega), if_pos (by omega)]; simp
  unfold atI; rw [e]; exact h
def PlainIx (b : Expr) : Prop := ∀ o i, subscripted b false o i = operate [o, i] (getItem o i)
def IxR (X : Cx) (r : R2) : Prop :=
  ∀ (value slice : Expr) (pins : List (Addr × Obj)) (s : Shared) (σ : St) (H : Hp) (x y : V) (v u : Value) (Q : VK), Inv X pins σ H s → RelV x v → RelV y u → r x y H Q →
    subscripted slice false v u = operate [v, u] (getItem v u) → wpAny (model X.prog X.w) X.A (subscriptTail value slice v u) (EP X pins σ Q) X.xe s
def MtR (X : Cx) (id : String) (r : V → List V → Hp → VK → Prop) : Prop :=
  ∀ (pins : List (Addr × Obj)) (s : Shared) (σ : St) (H : Hp) (x : V) (xs : List V) (v : Value) (us : List Value) (Q : VK), Inv X pins σ H s → RelV x v → Vals xs us → r x xs H Q →
    wpAny (model X.prog X.w) X.A (call (.builtin id) (v :: us)) (EP X pins σ Q) X.xe s
section
variable {X : Cx} {a b : Expr} {ta tb : TE} {pos : Pos}
theorem IxR.or {r r' : R2} (h : IxR X r) (h' : IxR X r') : IxR X (fun x y H Q => r x y H Q ∨ r' x y H Q) := by
  intro value slice pins s σ H x y v u Q I rx ry q hs
  rcases q with q | q
  · exact h value slice pins s σ H x y v u Q I rx ry q hs
  · exact h' value slice pins s σ H x y v u Q I rx ry q hs
theorem pe_ix {r : R2} (hr : IxR X r) (ha : PE X a ta) (hb : PE X b tb) (hs : PlainIx b) : PE X (.Subscript a b pos) (tOp r ta tb) := by
  intro pins s σ H Q I h
  exact Subscript_ (binT ha hb I h fun v u s2 x y H2 I2 rx ry q => hr a b pins s2 σ H2 x y v u Q I2 rx ry q (hs _ _))

def rIxL (K : PySem.W.Frag) : R2 := fun x y H Q => ∃ p xs i v, x = .ref p ∧ y = .int i ∧ SqL K H p xs ∧ atI xs i = some v ∧ Q v H
def rIxT (K : PySem.W.Frag) : R2 := fun x y H Q => ∃ p xs i v, x = .ref p ∧ y = .int i ∧ SqT K H p xs ∧ atI xs i = some v ∧ Q v H
def rIxS : R2 := fun x y H Q => ∃ z i c, x = .str z ∧ y = .int i ∧ z.length ≤ sizeLine ∧ atI z.cps.toList i = some c ∧ Q (.str ⟨#[c]⟩) H
theorem ix_list : IxR X (rIxL X.K) := by
  intro value slice pins s σ H x y v u Q I rx ry h hs
  obtain ⟨p, xs, i, z, rfl, rfl, hq, he, q⟩ := h
  cases rx
  obtain ⟨t, rfl⟩ := ry
  obtain ⟨its, r, pl, hz⟩ := I.list hq
  obtain ⟨j, h1, h2, h3, h4, h5⟩ := atI_get he
  obtain ⟨w, ew, rw'⟩ := r.get h2
  have hl := r.length
  have hn := line63
  have fin : EP X pins σ Q w s := ⟨z, H, I, rw', q⟩
  by_cases h0 : 0 ≤ i
  · have hj : i.toNat = j := by
      rw [seqIndex_of h0 h5] at h1
      exact Option.some.inj h1
    exact item_listR pl.isList h0 (by omega) (by rw [hj]; simpa using ew) fin hs
  · have hj : (i + (its.toArray.size : Int)).toNat = j := by
      rw [seqIndex_neg (by omega) h4] at h1
      rw [List.size_toArray, ← hl]
      exact Option.some.inj h1
    exact subscriptTail_builtinR (x := w) pl.isList.typeIs slot_list_getitem.lookup
      (wpAny_getItem_list_neg (Q := fun r s' => r = w ∧ EP X pins σ Q r s') pl.isList (by omega) (by rw [List.size_toArray] <;> omega) (by omega) (by rw [hj]; simpa using ew) ⟨rfl, fin⟩) hs
theorem ix_tup : IxR X (rIxT X.K) := by
  intro value slice pins s σ H x y v u Q I rx ry h hs
  obtain ⟨p, xs, i, z, rfl, rfl, hq, he, q⟩ := h
  cases rx
  obtain ⟨t, rfl⟩ := ry
  obtain ⟨its, r, pl, hz⟩ := I.tuple hq
  obtain ⟨j, h1, h2, h3, h4, h5⟩ := atI_get he
  obtain ⟨w, ew, rw'⟩ := r.get h2
  have hl := r.length
  have hn := line63
  have fin : EP X pins σ Q w s := ⟨z, H, I, rw', q⟩
  exact subscriptTail_builtinR (x := w) pl.typeIs slot_tuple_getitem.lookup
    (getItem_tuple (j := j) (Q := fun r s' => r = w ∧ EP X pins σ Q r s') pl (by omega) (by omega) (by rw [List.size_toArray, ← hl]; exact h1) (by simpa using ew) ⟨rfl, fin⟩) hs
theorem ix_str : IxR X rIxS := by
  intro value slice pins s σ H x y v u Q I rx ry h hs
  obtain ⟨z, i, c, rfl, rfl, hz, he, q⟩ := h
  obtain ⟨t, rfl⟩ := rx
  obtain ⟨t', rfl⟩ := ry
  obtain ⟨j, h1, h2, h3, h4, h5⟩ := atI_get he
  have hl : z.cps.toList.length = z.length := by simp [Str.length]
  rw [hl] at h1 h4 h5
  have hn := line63
  exact tail_any (typeIs_str s z t) slot_str_getitem.lookup (getItem_str (c := c) (by
    have e1 : decide (i < -(2 ^ 63 : Int)) = false := decide_eq_false (by omega)
    have e2 : decide (i ≥ 2 ^ 63) = false := decide_eq_false (by omega)
    rw [e1, e2, Bool.or_false]) (by rw [h1]; simpa using h2) ⟨.str ⟨#[c]⟩, H, I.tok _, ⟨_, rfl⟩, q⟩) hs
def rIx (K : PySem.W.Frag) : R2 := fun x y H Q => rIxL K x y H Q ∨ rIxT K x y H Q ∨ rIxS x y H Q
theorem ix_seq : IxR X (rIx X.K) := ix_list.or (ix_tup.or ix_str)

theorem mapSeq_set (its : List Value) (n j : Nat) (u : Value) : Obj.mapSeq (·.setIfInBounds j u) { cls := .type "list", data := .seq its.toArray n } = { cls := .type "list", data := .seq (its.set j u).toArray n } := by
  simp [Obj.mapSeq]
theorem Inv.lst {pins : List (Addr × Obj)} {σ : St} {H : Hp} {s : Shared} {p : Addr} {xs : List V} (I : Inv X pins σ H s) (h : H p = some (.lst xs)) :
    ∃ (its : List Value) (n : Nat), Vals xs its ∧ s.heap.get? p = some { cls := .type "list", data := .seq its.toArray n } ∧ xs.length ≤ sizeLine := by
  obtain ⟨z, its, n, r, e⟩ := I.hok p _ h
  exact ⟨its, n, r, e, z⟩
theorem Inv.lstUpd {pins : List (Addr × Obj)} {σ : St} {H : Hp} {s : Shared} {p : Addr} {xs ys : List V} {its its' : List Value} {n n' : Nat} {f : Obj → Obj} (I : Inv X pins σ H s) (h : H p = some (.lst xs))
    (ho : s.heap.get? p = some { cls := .type "list", data := .seq its.toArray n }) (hf : f { cls := .type "list", data := .seq its.toArray n } = { cls := .type "list", data := .seq its'.toArray n' }) (r : Vals ys its') (hz : ys.length ≤ sizeLine) (t : Nat) :
    Inv X pins σ (upd H p (.lst ys)) { s with heap := s.heap.update p f, toks := t } := by
  have e : (s.heap.update p f).get? p = some { cls := .type "list", data := .seq its'.toArray n' } := by
    rw [Heap.get?_update_self f ho (by rw [hf] <;> rfl), hf]
  refine I.write (x := p) (e := p) (by rw [h]; trivial) (.inl rfl) (fun b u hb q => (Heap.get?_update_other _ _ (Ne.symm hb)).trans q) ⟨_, e⟩ ?_
  exact ⟨hz, its', n', r, e⟩
def rSetL : V → V → V → Hp → (Hp → Prop) → Prop := fun o i v H Q => ∃ p xs k j, o = .ref p ∧ i = .int k ∧ H p = some (.lst xs) ∧ ixN xs.length k = some j ∧ Q (upd H p (.lst (xs.set j v)))
theorem set_list : PSet X rSetL := by
  intro pins s σ H o i v ov iv u Q I ro ri rv h
  obtain ⟨p, xs, k, j, rfl, rfl, hp, hj, q⟩ := h
  cases ro
  obtain ⟨t, rfl⟩ := ri
  obtain ⟨its, n, r, ho, hz⟩ := I.lst hp
  obtain ⟨h1, h2, h3, h4⟩ := ixN_seq hj
  have hl := r.length
  have hn := line63
  have I' : Inv X pins σ (upd H p (.lst (xs.set j v))) { s with heap := s.heap.update p (Obj.mapSeq (·.setIfInBounds j u)) } :=
    I.lstUpd hp ho (mapSeq_set its n j u) (r.set rv j) (by rw [List.length_set]; exact hz) s.toks
  by_cases h0 : 0 ≤ k
  · have hk : k.toNat = j := by
      rw [seqIndex_of h0 h4] at h1
      exact Option.some.inj h1
    exact PySem.W.ki_setAt ho h0 (by omega) (by rw [List.size_toArray, ← hl]; exact h4) (by rw [hk]; exact ⟨_, I', q⟩)
  · have hk : (k + (its.toArray.size : Int)).toNat = j := by
      rw [seqIndex_neg (by omega) h3] at h1
      rw [List.size_toArray, ← hl]
      exact Option.some.inj h1
    exact PySem.W.ki_setBack ho (by omega) (by rw [List.size_toArray, ← hl]; exact h3) (by omega) (by rw [hk]; exact ⟨_, I', q⟩)

theorem slice_bounds (lo hi : Option Int) (n : Nat) : (sliceBounds lo hi none n).1 = ((HT.sIx n 0 lo : Nat) : Int) ∧ (sliceBounds lo hi none n).2.1 = ((HT.sIx n n hi : Nat) : Int) ∧ (sliceBounds lo hi none n).2.2 = 1 := by
  refine ⟨?_, ?_, rfl⟩
  · cases lo with
    | none => simp [sliceBounds, HT.sIx]
    | some i =>
      simp only [sliceBounds, HT.sIx, Option.getD_none, show (1 : Int) > 0 by decide, if_true]
      by_cases h : i < 0
      · simp only [h, if_true] <;> omega
      · simp only [h, if_false] <;> omega
  · cases hi with
    | none => simp [sliceBounds, HT.sIx]
    | some i =>
      simp only [sliceBounds, HT.sIx, Option.getD_none, show (1 : Int) > 0 by decide, if_true]
      by_cases h : i < 0
      · simp only [h, if_true] <;> omega
      · simp only [h, if_false] <;> omega
theorem slicePick_cut (its : List Value) (lo hi : Option Int) : slicePick its.toArray lo hi none = ((its.drop (HT.sIx its.length 0 lo)).take (HT.sIx its.length its.length hi - HT.sIx its.length 0 lo)).toArray := by
  obtain ⟨h1, h2, h3⟩ := slice_bounds lo hi its.toArray.size
  unfold slicePick
  rw [h1, h2, h3]
  simp only [sliceRange_one, pick_run, List.size_toArray] <;> rfl
def rSlL (K : PySem.W.Frag) : V → Option Int → Option Int → Hp → VK → Prop := fun x lo hi H Q => ∃ a xs, x = .ref a ∧ SqL K H a xs ∧ ∀ p, H p = none → Q (.ref p) (upd H p (.lst (cutV xs lo hi)))
theorem sl_list : SlR X (rSlL X.K) := by
  intro pins s σ H x v vl vu lo hi sl Q I rx hs pl pu h
  obtain ⟨a, xs, rfl, hx, q⟩ := h
  cases rx
  obtain ⟨its, r, ht, hz⟩ := I.list hx
  have hlen := r.length
  refine ⟨"list", _, slot_list_getitem.lookup, ht.isList.typeIs, ?_⟩
  refine wpAny_getItem_list_slice ht.isList hs pl pu .none (by simp) ?_ (by rw [List.size_toArray] <;> omega)
  rw [slicePick_cut, ← hlen]
  refine ⟨.ref s.heap.objs.size, _, I.laid (t' := s.toks) (o := .lst (cutV xs lo hi)) (fun b ob q => Heap.get?_push_of_some _ q) (Nat.le_refl _) ?_, rfl, q _ (I.hok.fresh (Nat.le_refl _))⟩
  exact ⟨Nat.le_trans (cutV_length xs lo hi) hz, _, 0, (r.drop (HT.sIx xs.length 0 lo)).take (HT.sIx xs.length xs.length hi - HT.sIx xs.length 0 lo), Heap.get?_push_size _ rfl⟩

theorem op_notIn_str : OpR X (compareOp .NotIn) (fun x y H Q => ∃ i j, x = .str i ∧ y = .str j ∧ Q (.bl (!(!(Builtin.Str.occurrences j i 0 j.length 1).isEmpty))) H) := by
  intro pins s σ H x y v u Q I rx ry h
  obtain ⟨i, j, rfl, rfl, q⟩ := h
  obtain ⟨t, rfl⟩ := rx
  obtain ⟨t', rfl⟩ := ry
  exact notIn_str ⟨.bl _, H, I, rfl, q⟩

theorem call_len_seq : CallR X (.builtin "len") (fun xs H Q => ∃ p ys, xs = [.ref p] ∧ (SqL X.K H p ys ∨ SqT X.K H p ys) ∧ Q (.int ys.length) H) := by
  intro pins s σ H xs us Q I r h
  obtain ⟨p, ys, rfl, hq, q⟩ := h
  obtain ⟨u, rfl, rx⟩ := vals1 r
  cases rx
  have hn := line63
  rcases hq with hq | hq
  · obtain ⟨its, r', pl, hz⟩ := I.list hq
    have hlen := r'.length
    exact Calls.call_len_list pl.isList (by simp only [List.size_toArray] <;> omega) ⟨.int ys.length, H, I.tok _, ⟨s.toks + 1, by rw [List.size_toArray, hlen]⟩, q⟩
  · obtain ⟨its, r', pl, hz⟩ := I.tuple hq
    have hlen := r'.length
    exact len_tuple pl (by simp only [List.size_toArray] <;> omega) ⟨.int ys.length, H, I.tok _, ⟨s.toks + 1, by rw [List.size_toArray, hlen]⟩, q⟩
theorem call_len_str : CallR X (.builtin "len") (fun xs H Q => ∃ z, xs = [.str z] ∧ z.length ≤ sizeLine ∧ Q (.int z.length) H) := by
  intro pins s σ H xs us Q I r h
  obtain ⟨z, rfl, hz, q⟩ := h
  obtain ⟨u, rfl, t, rfl⟩ := vals1 r
  have hn := line63
  exact len_str (by omega) ⟨.int z.length, H, I.tok _, ⟨_, rfl⟩, q⟩
theorem call_list_of : CallR X (.type "list") (fun xs H Q => ∃ p ys, xs = [.ref p] ∧ (SqL X.K H p ys ∨ SqT X.K H p ys) ∧ ∀ l, H l = none → Q (.ref l) (upd H l (.lst ys))) := by
  intro pins s σ H xs us Q I r h
  obtain ⟨p, ys, rfl, hq, q⟩ := h
  obtain ⟨u, rfl, rx⟩ := vals1 r
  cases rx
  have fin : ∀ (its : List Value), Vals ys its → ys.length ≤ sizeLine → ∀ (h' : Heap) (c' : Nat), (∀ b o', s.heap.get? b = some o' → h'.get? b = some o') →
      h'.get? s.heap.objs.size = some { cls := .type "list", dict := none, data := .seq its.toArray c', slots := #[] } → EP X pins σ Q (.ref s.heap.objs.size) { s with heap := h' } := fun its r' hz h' c' kp e =>
    ⟨.ref s.heap.objs.size, _, I.laid (t' := s.toks) kp (Nat.le_refl _) (show ObjOk X.prog X.w _ h' _ (.lst ys) from ⟨hz, its, c', r', e⟩), rfl, q _ (I.hok.fresh (Nat.le_refl _))⟩
  rcases hq with hq | hq
  · obtain ⟨its, r', pl, hz⟩ := I.list hq
    have hlen := r'.length
    obtain ⟨o, ho, hc, n, hd⟩ := pl.isList
    exact call_list_seq p (.inl rfl) ho hc hd (fun h' c' kp e => fin its r' hz h' c' kp e) (by simp only [List.size_toArray] <;> omega)
  · obtain ⟨its, r', pl, hz⟩ := I.tuple hq
    have hlen := r'.length
    obtain ⟨o, ho, hc, n, hd⟩ := pl
    exact call_list_seq p (.inr rfl) ho hc hd (fun h' c' kp e => fin its r' hz h' c' kp e) (by simp only [List.size_toArray] <;> omega)
theorem call_tuple_of : CallR X (.type "tuple") (fun xs H Q => ∃ p ys, xs = [.ref p] ∧ ((SqL X.K H p ys ∧ ∀ l, H l = none → Q (.ref l) (upd H l (.tup ys))) ∨ (SqT X.K H p ys ∧ Q (.ref p) H))) := by
  intro pins s σ H xs us Q I r h
  obtain ⟨p, ys, rfl, h⟩ := h
  obtain ⟨u, rfl, rx⟩ := vals1 r
  cases rx
  rcases h with ⟨hq, q⟩ | ⟨hq, q⟩
  · obtain ⟨its, r', pl, hz⟩ := I.list hq
    have hlen := r'.length
    refine call_tuple_list pl.isList (fun h' kp => ?_) (by simp only [List.size_toArray] <;> omega)
    have I1 : Inv X pins σ H { s with heap := h' } := I.kept (t' := s.toks) kp
    have I2 : Inv X pins σ (upd H h'.objs.size (.tup ys)) { s with heap := h'.push { cls := .type "tuple", data := .seq its.toArray } } :=
      I1.laid (t' := s.toks) (fun b o e => Heap.get?_push_of_some _ e) (Nat.le_refl _) (show ObjOk X.prog X.w _ _ _ (.tup ys) from ⟨hz, its, r', IsTup.new _ _⟩)
    exact ⟨.ref h'.objs.size, _, I2, rfl, q _ (I1.hok.fresh (Nat.le_refl _))⟩
  · obtain ⟨its, r', pl, hz⟩ := I.tuple hq
    exact call_tuple_same pl ⟨.ref p, H, I, rfl, q⟩

def tyV (K : PySem.W.Frag) (T : String) (x : V) (H : Hp) : Prop := match x with
  | .str _ => T = "str"
  | .int _ => T = "int"
  | .ref p => (T = "list" ∧ ∃ xs, SqL K H p xs) ∨ (T = "tuple" ∧ ∃ o, K.lookup p = some o ∧ o.cls = .type "tuple" ∧ o.dict = none) ∨
      (T = "dict" ∧ ((∃ kvs, H p = some (.dK kvs)) ∨ ∃ kvs, H p = some (.dT kvs))) ∨ (T = "set" ∧ ∃ S n, H p = some (.set S n))
  | _ => False
theorem tyV_is {pins : List (Addr × Obj)} {σ : St} {H : Hp} {s : Shared} {T : String} {x : V} {v : Value} (I : Inv X pins σ H s) (r : RelV x v) (ty : tyV X.K T x H) :
    s.TypeIs v T ∧ ∀ a, v = .ref a → ∃ ob, s.heap.get? a = some ob ∧ ob.dict = none := by
  cases x with
  | str z =>
    obtain ⟨t, rfl⟩ := r
    cases (show T = "str" from ty)
    exact ⟨typeIs_str s z t, fun _ e => nomatch e⟩
  | int i =>
    obtain ⟨t, rfl⟩ := r
    cases (show T = "int" from ty)
    exact ⟨typeIs_int s i t, fun _ e => nomatch e⟩
  | ref p =>
    cases r
    rcases ty with ⟨rfl, xs, hq⟩ | ⟨rfl, o, hk, hc, hd⟩ | ⟨rfl, hk⟩ | ⟨rfl, S, n, hk⟩
    · obtain ⟨its, _, pl, _⟩ := I.list hq
      refine ⟨pl.isList.typeIs, fun a e => ?_⟩
      cases e
      obtain ⟨o, n, e, c, hd, _⟩ := pl
      exact ⟨o, e, hd⟩
    · refine ⟨⟨o, I.kIn p o hk, hc⟩, fun a e => ?_⟩
      cases e
      exact ⟨o, I.kIn _ o hk, hd⟩
    · have z : ∃ o, s.heap.get? p = some o ∧ o.ExactDict := by
        rcases hk with ⟨kvs, hk⟩ | ⟨kvs, hk⟩
        · obtain ⟨_, _, _, _, o, _, _, e, ex, _⟩ := I.hok p _ hk
          exact ⟨o, e, ex⟩
        · obtain ⟨_, _, _, _, o, _, _, e, ex, _⟩ := I.hok p _ hk
          exact ⟨o, e, ex⟩
      obtain ⟨o, e, ex⟩ := z
      refine ⟨⟨o, e, ex.1⟩, fun a e2 => ?_⟩
      cases e2
      exact ⟨o, e, ex.2.1⟩
    · obtain ⟨o, _, _, _, e, ex, _⟩ := I.hok p _ hk
      refine ⟨⟨o, e, ex.1⟩, fun a e2 => ?_⟩
      cases e2
      exact ⟨o, e, ex.2.1⟩
  | _ => exact False.elim ty
def tBM (K : PySem.W.Frag) (T : String) (r : V → List V → Hp → VK → Prop) (to : TE) (t : TA) : TE := fun σ H Q => to σ H fun x H1 => tyV K T x H1 ∧ t σ H1 fun xs H2 => r x xs H2 Q
variable {o e : Expr} {es : List Expr} {to : TE} {t : TA} {name : Str} {apos cpos : Pos} {T id : String} {r : V → List V → Hp → VK → Prop}
theorem pe_bm (pa : PlainAttrs T) (slot : Slot T name id) (hty : typeOf (.builtin id) = pure (.type "method_descriptor")) (hm : MtR X id r) (ho : PE X o to) (ha : PA X (e :: es) t)
    (hbase : attributeBase o name X.env (eval o X.env) = eval o X.env := by rfl)
    (hfew : ((backTo cpos (starEach (e :: es) X.env)).all (fun x => !x.1) && (backToKw cpos (keywordEach [] X.env)).all (fun x => x.1.isSome)
      && decide ((e :: es).length + ([] : List Keyword).length + (if ([] : List Keyword).isEmpty then 0 else 1) < 30)) = true := by rfl)
    (hline : (apos.endLine == cpos.line) = true := by rfl) (hs : starEach (e :: es) X.env = (false, eval e X.env) :: starEach es X.env := by rfl) (hplain : (backTo cpos (starEach es X.env)).any (·.1) = false := by rfl) :
    PE X (.Call (.Attribute o name apos) (e :: es) [] cpos) (tBM X.K T r to t) := by
  intro pins s σ H Q I h
  refine wpAny_Call_method_late hbase hfew hline rfl (thn (ho pins s σ H _ I h) fun v s1 ⟨x, H1, I1, r1, ty, q1⟩ => ?_)
  obtain ⟨h1, h2⟩ := tyV_is I1 r1 ty
  refine ⟨T, id, pa, slot, hty, h1, h2, ?_⟩
  have hA := ha cpos pins s1 σ H1 _ I1 q1
  rw [hs] at hA ⊢
  refine Calls.callWith_builtin (by show (false || (backTo cpos (starEach es X.env)).any (·.1)) = false; rw [hplain] <;> rfl) (Calls.evalArgs_plain ?_)
  exact thn hA fun us s2 ⟨vs, H2, I2, r2, q2⟩ => hm pins s2 σ H2 x vs v us Q I2 r1 r2 q2
end
end L2
namespace L2
open PySem PySem.Spec PyProof.Rows
def MtM (X : Cx) (id : String) (r : V → List V → Hp → VK → Prop) : Prop :=
  ∀ (pins : List (Addr × Obj)) (s : Shared) (σ : St) (H : Hp) (x : V) (xs : List V) (v : Value) (us : List Value) (Q : VK), Inv X pins σ H s → RelV x v → Vals xs us → r x xs H Q →
    wpAny (model X.prog X.w) X.A (call (.builtin id) (v :: us)) (EP X pins σ Q) X.xe s

theorem Vals.one : ∀ {x : V} {us : List Value}, Vals [x] us → ∃ u, us = [u] ∧ RelV x u
  | _, _, .cons r .nil => ⟨_, rfl, r⟩
theorem Vals.reverse {xs : List V} {us : List Value} (h : Vals xs us) : Vals xs.reverse us.reverse := by
  induction h with
  | nil => exact .nil
  | cons r t ih => rw [List.reverse_cons, List.reverse_cons]; exact Vals.append ih (.cons r .nil)
theorem Vals.rep {xs : List V} {us : List Value} (h : Vals xs us) : ∀ k : Nat, Vals (List.replicate k xs).flatten (List.replicate k us).flatten
  | 0 => .nil
  | k + 1 => by
    rw [List.replicate_succ, List.replicate_succ, List.flatten_cons, List.flatten_cons]
    exact Vals.append h (Vals.rep h k)
theorem foldl_rep (its : List Value) : ∀ (k : Nat) (acc : List Value),
    List.foldl (fun x1 x2 => x1 ++ x2) acc.toArray (List.replicate k its.toArray) = (acc ++ (List.replicate k its).flatten).toArray
  | 0, acc => by simp
  | k + 1, acc => by
    have e : acc.toArray ++ its.toArray = (acc ++ its).toArray := by simp
    have e2 : (acc ++ its) ++ (List.replicate k its).flatten = acc ++ (List.replicate (k + 1) its).flatten := by
      rw [List.replicate_succ, List.flatten_cons, List.append_assoc]
    rw [← e2, ← foldl_rep its k (acc ++ its), ← e, List.replicate_succ, List.foldl_cons]

section
variable {X : Cx} {pins : List (Addr × Obj)} {σ : St} {H : Hp} {s : Shared} {l b : Addr} {xs ys zs : List V}
theorem Inv.lset {its its' : List Value} {n : Nat} {f : Array Value → Array Value} {t' : Nat} (I : Inv X pins σ H s) (hH : H l = some (.lst xs))
    (e : s.heap.get? l = some { cls := .type "list", data := .seq its.toArray n }) (hf : f its.toArray = its'.toArray) (hv : Vals ys its') (hz : ys.length ≤ sizeLine) :
    Inv X pins σ (upd H l (.lst ys)) { s with heap := s.heap.update l (Obj.mapSeq f), toks := t' } := by
  have q := PySem.IsL.update e f
  rw [hf] at q
  refine I.write (x := l) (e := l) (by rw [hH]; exact trivial) (.inl rfl) (fun b' u hb hu => (Heap.get?_update_other s.heap (Obj.mapSeq f) (Ne.symm hb)).trans hu) ⟨_, q⟩ ?_
  exact ⟨hz, its', _, hv, q⟩
theorem Inv.lnew {its : List Value} {t' : Nat} (I : Inv X pins σ H s) (hv : Vals ys its) (hz : ys.length ≤ sizeLine) :
    Inv X pins σ (upd H s.heap.objs.size (.lst ys)) { s with heap := s.heap.push { cls := .type "list", data := .seq its.toArray }, toks := t' } :=
  I.laid (fun _ _ q => Heap.get?_push_of_some _ q) (Nat.le_refl _) ⟨hz, its, 0, hv, Heap.get?_push_size _ rfl⟩
theorem Inv.fresh (I : Inv X pins σ H s) : H s.heap.objs.size = none := I.hok.fresh (Nat.le_refl _)
theorem Inv.lstM (I : Inv X pins σ H s) (hH : H l = some (.lst xs)) : xs.length ≤ sizeLine ∧ ∃ (its : List Value) (n : Nat), Vals xs its ∧ xs.length = its.length ∧ s.heap.get? l = some { cls := .type "list", data := .seq its.toArray n } := by
  obtain ⟨z, its, n, r, e⟩ := I.hok l _ hH
  exact ⟨z, its, n, r, r.length, e⟩

theorem notLongL {n : Nat} (h : n ≤ sizeLine) : Builtin.List.listTooLong n = false := by
  unfold Builtin.List.listTooLong
  exact decide_eq_false (by omega)
end
section
variable {X : Cx}
def rAppend : V → List V → Hp → VK → Prop := fun x vs H Q => ∃ l xs y, x = .ref l ∧ vs = [y] ∧ H l = some (.lst xs) ∧ xs.length < sizeLine ∧ Q .non (upd H l (.lst (xs ++ [y])))
theorem mt_append : MtM X "list.append" rAppend := by
  intro pins s σ H x vs v us Q I rx rv h
  obtain ⟨l, xs, y, rfl, rfl, hH, hz, q⟩ := h
  cases rx
  obtain ⟨u, rfl, ru⟩ := rv.one
  obtain ⟨z, its, n, r, hl, e⟩ := I.lstM hH
  refine call_meets F.slot_list_append ⟨_, e, rfl⟩ F.entry_list_append (F.args_list_append_2 _ _) (PySem.list_append l its.toArray n u (by rw [List.size_toArray]; omega)) ⟨e, ?_⟩
  refine ⟨.non, _, I.lset (its' := its ++ [u]) hH e (by simp) (r.append (.cons ru .nil)) ?_, rfl, q⟩
  rw [List.length_append, List.length_singleton]
  omega

def rExtend : V → List V → Hp → VK → Prop := fun x vs H Q => ∃ l b xs zs, x = .ref l ∧ vs = [.ref b] ∧ H l = some (.lst xs) ∧ H b = some (.lst zs) ∧ xs.length + zs.length ≤ sizeLine ∧ Q .non (upd H l (.lst (xs ++ zs)))
theorem mt_extend : MtM X "list.extend" rExtend := by
  intro pins s σ H x vs v us Q I rx rv h
  obtain ⟨l, b, xs, zs, rfl, rfl, hH, hB, hz, q⟩ := h
  cases rx
  obtain ⟨u, rfl, ru⟩ := rv.one
  cases ru
  obtain ⟨z, its, n, r, hl, e⟩ := I.lstM hH
  obtain ⟨z2, its2, n2, r2, hl2, e2⟩ := I.lstM hB
  have hsz : its.toArray.size + its2.toArray.size ≤ sizeLine := by rw [List.size_toArray, List.size_toArray]; omega
  have hlong : ¬ (!its.toArray.isEmpty && Builtin.List.listTooLong (its.toArray.size + its2.toArray.size)) = true := by
    rw [notLongL hsz, Bool.and_false]
    exact Bool.false_ne_true
  refine call_meets F.slot_list_extend ⟨_, e, rfl⟩ F.entry_list_extend (F.args_list_extend_2 _ _)
    (AutoSeq1.list_extend_list_list_0 l its.toArray n b its2.toArray n2 hlong (by rw [List.size_toArray]; omega) (by omega)) ⟨e, e2, ?_⟩
  refine ⟨.non, _, I.lset (its' := its ++ its2) hH e (by simp) (r.append r2) ?_, rfl, q⟩
  rw [List.length_append]
  omega

def rCat : R2 := fun x y H Q => ∃ l b xs zs, x = .ref l ∧ y = .ref b ∧ H l = some (.lst xs) ∧ H b = some (.lst zs) ∧ xs.length + zs.length ≤ sizeLine ∧ ∀ p, H p = none → Q (.ref p) (upd H p (.lst (xs ++ zs)))
theorem op_cat : OpR X (binaryOp .Add) rCat := by
  intro pins s σ H x y v u Q I rx ry h
  obtain ⟨l, b, xs, zs, rfl, rfl, hH, hB, hz, q⟩ := h
  cases rx
  cases ry
  obtain ⟨z, its, n, r, hl, e⟩ := I.lstM hH
  obtain ⟨z2, its2, n2, r2, hl2, e2⟩ := I.lstM hB
  refine PySem.P.add_list e e2 ?_ (by rw [List.size_toArray, List.size_toArray]; omega)
  have ea : its.toArray ++ its2.toArray = (its ++ its2).toArray := by simp
  rw [ea]
  exact ⟨.ref _, _, I.lnew (t' := s.toks) (r.append r2) (by rw [List.length_append]; omega), rfl, q _ I.fresh⟩
def rRep : R2 := fun x y H Q => ∃ l k xs, x = .ref l ∧ y = .int k ∧ H l = some (.lst xs) ∧ -(2 ^ 63) ≤ k ∧ k < 2 ^ 63 ∧ xs.length * k.toNat ≤ sizeLine ∧
  ∀ p, H p = none → Q (.ref p) (upd H p (.lst (List.replicate k.toNat xs).flatten))
theorem len_rep {α : Type} (xs : List α) (k : Nat) : (List.replicate k xs).flatten.length = k * xs.length := by
  induction k with
  | zero => simp
  | succ k ih => rw [List.replicate_succ, List.flatten_cons, List.length_append, ih, Nat.succ_mul, Nat.add_comm]
theorem op_rep : OpR X (binaryOp .Mult) rRep := by
  intro pins s σ H x y v u Q I rx ry h
  obtain ⟨l, k, xs, rfl, rfl, hH, h1, h2, hz, q⟩ := h
  cases rx
  obtain ⟨t, rfl⟩ := ry
  obtain ⟨z, its, n, r, hl, e⟩ := I.lstM hH
  have hlen : its.toArray.size * k.toNat ≤ sizeLine := by rw [List.size_toArray, ← hl]; exact hz
  have hcap : ¬ its.toArray.size * k.toNat > (2 ^ 63 - 1) / 8 := by
    have : (sizeLine : Nat) ≤ (2 ^ 63 - 1) / 8 := by decide
    omega
  have hfit : ¬ (!Builtin.List.listFitsIndex k) = true := by
    rw [fitsIndex_both h1 h2]
    exact Bool.false_ne_true
  have hlong : ¬ Builtin.List.listTooLong (its.toArray.size * k.toNat) = true := by
    rw [notLongL hlen]
    exact Bool.false_ne_true
  have hnew : List.foldl (fun x1 x2 => x1 ++ x2) #[] (List.replicate (if its.toArray.isEmpty = true then 0 else k.toNat) its.toArray) = (List.replicate k.toNat its).flatten.toArray := by
    have f0 : ∀ m : Nat, List.foldl (fun x1 x2 => x1 ++ x2) #[] (List.replicate m its.toArray) = (List.replicate m its).flatten.toArray := fun m => by
      have := foldl_rep its m []
      rw [List.nil_append] at this
      exact this
    rw [f0]
    cases its with
    | nil => simp
    | cons a r' => rw [if_neg (by simp)]
  refine wpAny_binaryOp_repeat_ref (T := "list") (U := "int") (by decide) ⟨_, e, rfl⟩ (fun s' => typeIs_int s' k t) noFill_list_mul F.fills_int_mul F.slot_int_rmul repeat_list F.slot_int_index.lookup
    (call_meets F.slot_int_rmul (typeIs_int s k t) F.entry_int_rmul (F.args_int_rmul_2 _ _) (int___rmul___int_list k t l its.toArray n)
      ⟨e, rfl, ⟨_, e, rfl⟩, call_meets F.slot_list_mul ⟨_, e, rfl⟩ F.entry_list_mul (F.args_list_mul_2 _ _) (AutoListH.list___mul___list_int_3 l its.toArray n k t hfit hcap hlong) ⟨e, ?_⟩⟩)
  rw [hnew]
  exact ⟨.ref _, _, I.lnew (t' := s.toks) (r.rep k.toNat) (by rw [len_rep, Nat.mul_comm]; exact hz), rfl, q _ I.fresh⟩

end
end L2
namespace Att
open PySem PySem.W PySem.Calls PyProof.Rows
theorem ints_of_wellAll {P : Params} {h : Heap} : ∀ (ns : List Int) (vs : List Value), WellAll P h vs (ns.map WData.int) → IntsAre vs ns := by
  intro ns
  induction ns with
  | nil =>
    intro vs w
    rw [List.map_nil] at w
    cases w
    exact .nil
  | cons n ns ih =>
    intro vs w
    rw [List.map_cons] at w
    cases w with
    | cons a b =>
      cases a
      exact .cons _ _ (ih _ b)

theorem script_of {l : OpenLaw} {n : Nat} (hn : l.most = some n) {P : Params} {h : Heap} {args : List WData} {vals : List Value}
    (hpre : l.row.toRowW.claim.pre args = true) (hwl : WellAll P h vals args) :
    ∃ a vs ns, vals = [Value.ref a] ∧ args = [WData.list (ns.map WData.int)] ∧ h.get? a = some { cls := .type "list", data := .seq vs.toArray } ∧ IntsAre vs ns ∧ ns.length ≤ n := by
  have hsh : WShape.hasAll [] args [.list .int] = true := (pre_splitW hpre).1
  have hc : l.pre.holds [] { args := args } = true := (pre_splitW hpre).2
  obtain ⟨d, r, rfl, h1, h2⟩ := hasAllW_cons hsh
  obtain rfl := hasAllW_nil h2
  obtain ⟨xs, rfl, h3⟩ := hasW_list h1
  obtain ⟨ns, rfl⟩ := items_int h3
  have hlen : ns.length ≤ n := by
    unfold OpenLaw.pre at hc
    have h4 : (WTm.not (.lt (.lit (.int (n : Int))) (.len (.arg 0)))).holds [] { args := [.list (ns.map .int)] } = true := by
      have h4 := (holds_andW hc).1
      rw [hn] at h4
      exact h4
    have h5 := condW_of h4 (w_not (w_lt w_lit (w_len_list (w_arg rfl))))
    rw [List.length_map] at h5
    refine Nat.le_of_not_lt fun q => ?_
    have q' : (n : Int) < ((ns.length : Nat) : Int) := by omega
    first
      | (rw [decide_eq_true q'] at h5; exact absurd h5 (by decide))
      | (simp at h5; omega)
  cases hwl with
  | cons w1 w2 =>
    cases w2
    cases w1 with
    | list ho hall => exact ⟨_, _, ns, rfl, rfl, ho, ints_of_wellAll ns _ hall, hlen⟩

theorem post_true (l : OpenLaw) (args : List WData) : l.row.toRowW.claim.post args (.bool true) args = true :=
  postW_of (r := l.row.toRowW) (X := (true == true))
    (show WShape.has [] (.bool true) .bool = true by first | rfl | decide | simp [WShape.has, WShape.arms, WShape.armsAll])
    (show (WTm.eq .res (.lit (.bool true))).value [] { args := args, res := some (.bool true), after := args } = some (.bool (true == true)) from w_eq_bool (w_res rfl) w_lit) rfl

theorem attach_call {l : OpenLaw} {n : Nat} {q : Program} {loose : List Str} {XP : (Str → Option Value) → Heap → Prop} {YP : World → Heap → Prop} {d : DefRec}
    (hn : l.most = some n) (hdf : d.params.defaults = [])
    (call : ∀ (w : World) (s₀ s₁ : Shared) (mg mb : Str → Option Value) (fa : Addr) (o : Obj) (pm cd doc : Value) (a : Addr) (vs : List Value) (ns : List Int),
      Ground q loose [] XP w s₀ mg mb s₁.heap → YP w s₁.heap →
      s₁.heap.get? fa = some o → o.data = .func (docDef d.name d.params d.body d.scope pm cd doc) → s₁.heap.CodeRec cd d.name → mg d.name = some (.ref fa) →
      s₁.heap.get? a = some { cls := .type "list", data := .seq vs.toArray } → IntsAre vs ns → ns.length ≤ n → s₁.gens = #[] →
      codeAny (model l.prog w) callerA (.call (.ref fa) ⟨[.ref a], []⟩) (fun r s' => r = .ok (.ret (.bool true)) ∧ OldK s₁.heap s'.heap ∧ s'.os = s₁.os ∧ AllBare s'.gens) s₁) :
    WalkO q loose XP YP l.row.toRowW d [] (fun f vs => PySem.call f vs) := by
  intro w s₀ s₁ mg mb G Y fa o pm cd doc dV kV ho hd hcd hD hmg hg args vals as hpre hlay hrd hwl hlo
  obtain rfl : dV = .none := Dflts.none hD hdf
  obtain rfl : kV = .none := Dflts.noKw hD
  obtain ⟨a, vs, ns, rfl, rfl, hobj, hints, hlen⟩ := script_of hn hpre hwl
  refine enter_call (codeAny_mono (call w s₀ s₁ mg mb fa o pm cd doc a vs ns G Y ho (fd_plain hd) hcd hmg hobj hints hlen hg) fun r s' hq => ?_)
  obtain ⟨rfl, h2, h3, h4⟩ := hq
  exact ⟨.inl ⟨.bool true, .bool true, [], rfl, fun _ => rfl, .bool true, post_true l _, fun _ => ⟨List.Pairwise.nil, fun _ hm => (nomatch hm)⟩⟩, h2, h3, h4⟩

end Att
namespace L2
open PySem PySem.Spec PyProof.Rows
theorem vals_ints : ∀ {vs : List Value} {ns : List Int}, IntsAre vs ns → Vals (ns.map V.int) vs
  | _, _, .nil => .nil
  | _, _, .cons n t h => .cons ⟨t, rfl⟩ (vals_ints h)

def Only (H : Hp) : Prop := ∀ b, H b = none ∨ ∃ o xs, H b = some (.frz o (.lst xs))

theorem law_call {P : Program} {w : World} {K : PySem.W.Frag} {mg mb : Str → Option Value} {CX : CXT} {k : Nat} {fa a : Addr} {fd : FuncData} {x : Str} {sp : Sp} {s₁ : Shared} {vs : List Value} {ns : List Int}
    (KX : K.In s₁.heap) (hns : s₁.heap.Ns mainGlobals mg) (hb : s₁.heap.Ns builtinsNs mb) (hbb : ∀ x : Str, x ≠ "__name__" → mb x = bootBuiltins x) (hlim : s₁.heap.NoLimit) (hg : s₁.gens = #[])
    (ha : s₁.heap.get? a = some { cls := .type "list", data := .seq vs.toArray }) (hi : IntsAre vs ns) (hl : ns.length ≤ sizeLine) (hr : Room k callerA)
    (F : ∀ base : Heap, K.In base → base.Ns mainGlobals mg → FnOk P w K mg base CX k fa fd [x] sp) (hbind : ∀ (s : Shared) (u : Value), BindsTo s fd ⟨[u], []⟩ [(x, u)])
    (hsp : ∀ H : Hp, Only H → SqL K H a (ns.map V.int) → sp [.ref a] H (fun v _ => v = .bl true) fun _ _ _ => False)
    (hCX : ∀ H e s', CX [] H s₁ (fun _ _ _ => False) e s' → False) :
    codeAny (model P w) callerA (.call (.ref fa) ⟨[.ref a], []⟩) (fun r s' => r = .ok (.ret (.bool true)) ∧ OldK s₁.heap s'.heap ∧ s'.os = s₁.os ∧ AllBare s'.gens) s₁ := by
  have rv := vals_ints hi
  have lenV := hi.length
  -- from an abstract heap in which nothing but the script may be tracked
  have core : ∀ H : Hp, Only H → SqL K H a (ns.map V.int) → HOk P w H s₁.heap → (∀ b, H b ≠ none → b = a) → (H a ≠ none → K.lookup a = none) →
      codeAny (model P w) callerA (.call (.ref fa) ⟨[.ref a], []⟩) (fun r s' => r = .ok (.ret (.bool true)) ∧ OldK s₁.heap s'.heap ∧ s'.os = s₁.os ∧ AllBare s'.gens) s₁ := by
    intro H hO hS hok hA hK
    have base_of : ∀ {b : Addr} {o : Obj}, s₁.heap.get? b = some o → H b = none → (hidT s₁.heap H).get? b = some o := fun e n => hidT_get e n
    have noA : ∀ {b : Addr} {o : Obj} {es : Array DictEntry} {ep : Nat}, s₁.heap.get? b = some o → o.data = .dict es ep → H b = none := fun {b o es ep} e d => by
      cases q : H b with
      | none => rfl
      | some u =>
        have e' : b = a := hA b (by rw [q]; simp)
        subst e'
        rw [ha] at e; cases e
        have d' : Data.seq vs.toArray _ = Data.dict es ep := d
        cases d'
    have nsK : ∀ {b : Addr} {m : Str → Option Value}, s₁.heap.Ns b m → (hidT s₁.heap H).Ns b m := fun {b m} ⟨o, es, ep, e, d, r⟩ => ⟨o, es, ep, base_of e (noA e d), d, r⟩
    have hKb : K.In (hidT s₁.heap H) := fun b o e => base_of (KX b o e) (by
      cases q : H b with
      | none => rfl
      | some u =>
        have e' : b = a := hA b (by rw [q]; simp)
        subst e'
        rw [hK (by rw [q]; simp)] at e; cases e)
    have hM : Mod K mg (hidT s₁.heap H) := ⟨hKb, nsK hns, ⟨mb, nsK hb, hbb⟩, let ⟨mc, h1, h2⟩ := hlim; ⟨mc, nsK h1, h2⟩⟩
    have e0 : Env0 P w K mg (hidT s₁.heap H) callerA [] s₁ H := ⟨rfl, hM, fun b o e => of_hidT e, Nat.le_of_eq (hidT_size _ _), trivial, fun b hb => absurd (show b ∈ ([] : List Addr) from hb) (by simp), hok, .of_eq hg⟩
    refine codeAny_mono ((F _ hKb (nsK hns)).run callerA [] s₁ H ⟨[.ref a], []⟩ [.ref a] [.ref a] _ _ hr e0 (hbind s₁ (.ref a)) (.cons rfl .nil) (hsp H hO hS)) fun r s' h => ?_
    cases r with
    | error e => exact (hCX H e s' h).elim
    | ok fl =>
      cases fl with
      | next => exact False.elim h
      | brk => exact False.elim h
      | cont => exact False.elim h
      | ret u =>
        obtain ⟨v, H', os, bare, un, hok', r', q⟩ := h
        have q' : v = .bl true := q
        subst q'
        obtain rfl : u = Value.bool true := r'
        refine ⟨rfl, OldK.of_keep fun b o e => ?_, os, bare⟩
        cases q : H b with
        | none => exact un.keep b o e q (by intro z; exact absurd (show b ∈ ([] : List Addr) from z) (by simp)) (by simp)
        | some u =>
          rcases hO b with z | ⟨ob, xs, z⟩
          · rw [q] at z; cases z
          · have z2 := un.frzs b ob _ z
            obtain ⟨e1, _⟩ := hok b _ z
            obtain ⟨e2, _⟩ := hok' b _ z2
            rw [e] at e1; cases e1
            exact e2
  cases hk : K.lookup a with
  | some o =>
    -- the script is one of the module's own objects
    have e := KX a o hk
    rw [ha] at e
    cases e
    refine core (fun _ => none) (fun _ => .inl rfl) (.inr ⟨_, vs.toArray, _, hk, rfl, rfl, rfl, by rw [List.size_toArray, lenV]; exact hl, by simpa using rv⟩) (fun b u z => by have z' : (none : Option HO) = some u := z; cases z') (fun b z => absurd rfl z) fun z => absurd rfl z
  | none =>
    refine core (fun b => if b = a then some (.frz { cls := .type "list", data := .seq vs.toArray } (.lst (ns.map V.int))) else none) (fun b => ?_) (.inl (.inr ⟨{ cls := .type "list", data := .seq vs.toArray }, if_pos rfl⟩)) (fun b u z => ?_) (fun b z => ?_) fun _ => hk
    · by_cases hb : b = a
      · exact .inr ⟨_, _, if_pos hb⟩
      · exact .inl (if_neg hb)
    · by_cases hb : b = a
      · have z' := (if_pos hb).symm.trans z
        cases z'
        subst hb
        exact ⟨ha, by rw [List.length_map]; exact hl, vs, _, rv, ha⟩
      · have z' := (if_neg hb).symm.trans z
        cases z'
    · by_cases hb : b = a
      · exact hb
      · exact absurd (if_neg hb) z
end L2
namespace L2
open PySem PySem.Spec PyProof.Rows
abbrev KOf {K : PySem.W.Frag} {h : Heap} (_ : K.In h) : PySem.W.Frag := K

theorem walk_of {l : PySem.W.OpenLaw} {n k : Nat} {q : Program} {loose : List Str} {XP : (Str → Option Value) → Heap → Prop} {YP : World → Heap → Prop} {d : DefRec} {K : Params → PySem.W.Frag} {CX : World → CXT} {sp : World → Sp} {x : Str}
    (hn : l.most = some n) (hn2 : n ≤ sizeLine) (hdf : d.params.defaults = []) (hr : Room k callerA)
    (hY : ∀ (w : World) (h : Heap), YP w h → (K w.params).In h)
    (F : ∀ (w : World) (mg : Str → Option Value) (fa : Addr) (h : Heap), (K w.params).In h → h.Ns mainGlobals mg → mg d.name = some (.ref fa) →
      ∃ fd : FuncData, (∀ (s : Shared) (u : Value), BindsTo s fd ⟨[u], []⟩ [(x, u)]) ∧
        ∀ base : Heap, (K w.params).In base → base.Ns mainGlobals mg → FnOk l.prog w (K w.params) mg base (CX w) k fa fd [x] (sp w))
    (hsp : ∀ (w : World) (H : Hp) (a : Addr) (ns : List Int), ns.length ≤ n → Only H → SqL (K w.params) H a (ns.map V.int) → sp w [.ref a] H (fun v _ => v = .bl true) fun _ _ _ => False)
    (hCX : ∀ (w : World) (H : Hp) (s : Shared) (e : Value) (s' : Shared), CX w [] H s (fun _ _ _ => False) e s' → False) :
    PySem.W.WalkO q loose XP YP l.row.toRowW d [] (fun f vs => PySem.call f vs) := by
  refine Att.attach_call hn hdf fun w s₀ s₁ mg mb fa o pm cd doc a vs ns G Y ho hd hcd hmg hobj hints hlen hg => ?_
  have KX := hY w _ Y
  obtain ⟨fd, hb, hF⟩ := F w mg fa _ KX G.T.g hmg
  exact law_call KX G.T.g G.T.b G.T.builtins G.T.nolimit hg hobj hints (Nat.le_trans hlen hn2) hr hF hb (fun H hO hS => hsp w H a ns hlen hO hS) fun H e s' => hCX w H s₁ e s'
theorem walk_ofK {l : PySem.W.OpenLaw} {n k : Nat} {q : Program} {loose : List Str} {XP : (Str → Option Value) → Heap → Prop} {YP : World → Heap → Prop} {d : DefRec} {K : Params → PySem.W.Frag} {CX : CXT} {sp : PySem.W.Frag → Sp} {x : Str}
    (hn : l.most = some n) (hn2 : n ≤ sizeLine) (hdf : d.params.defaults = []) (hr : Room k callerA)
    (hY : ∀ (w : World) (h : Heap), YP w h → (K w.params).In h)
    (F : ∀ (w : World) (mg : Str → Option Value) (fa : Addr) (h : Heap), (K w.params).In h → h.Ns mainGlobals mg → mg d.name = some (.ref fa) →
      ∃ fd : FuncData, (∀ (s : Shared) (u : Value), BindsTo s fd ⟨[u], []⟩ [(x, u)]) ∧
        ∀ base : Heap, (K w.params).In base → base.Ns mainGlobals mg → FnOk l.prog w (K w.params) mg base CX k fa fd [x] (sp (K w.params)))
    (hsp : ∀ (K : PySem.W.Frag) (H : Hp) (a : Addr) (ns : List Int), ns.length ≤ n → Only H → SqL K H a (ns.map V.int) → sp K [.ref a] H (fun v _ => v = .bl true) fun _ _ _ => False)
    (hCX : ∀ (H : Hp) (s : Shared) (e : Value) (s' : Shared), CX [] H s (fun _ _ _ => False) e s' → False) :
    PySem.W.WalkO q loose XP YP l.row.toRowW d [] (fun f vs => PySem.call f vs) :=
  walk_of (K := K) (CX := fun _ => CX) (sp := fun w => sp (K w.params)) hn hn2 hdf hr hY F (fun w H a ns h1 h2 h3 => hsp (K w.params) H a ns h1 h2 h3) fun _ H s e s' => hCX H s e s'
end L2
namespace L2
open PySem PySem.Spec PyProof.Rows
def defArgs (s : Stmt) : Arguments := match s with
  | .FunctionDef _ a _ _ _ _ _ _ _ _ => a
  | _ => { posonlyargs := [], args := [], vararg := none, kwonlyargs := [], kw_defaults := [], kwarg := none, defaults := [] }
def defBody (s : Stmt) : List Stmt := match s with
  | .FunctionDef _ _ b _ _ _ _ _ _ _ => b
  | _ => []
def defScope (s : Stmt) : Scope := match s with
  | .FunctionDef _ _ _ _ _ _ sc _ _ _ => sc
  | _ => { kind := .function, names := [], isGenerator := false, isCoroutine := false }

abbrev CX0 : CXT := fun _ _ _ _ _ _ => False
abbrev E0 : XK := fun _ _ _ => False
theorem pass0 {X : Cx} : Passes CX0 X E0 := fun _ _ _ _ _ _ _ h => h.elim

structure Fun (K : PySem.W.Frag) (x qual : Str) (st : Stmt) (f : Addr) (fd : FuncData) : Prop where
  ex : ∃ (oc : Value) (od : Option Addr) (kV doc pm : Value) (an : Option Addr) (cdv ct : Value) (osl : Array (Option Value)),
    fd = PySem.W.fnOf x qual (defArgs st) (defBody st) (defScope st) .none kV doc pm an cdv ct ∧ K.lookup f = some ⟨oc, od, .func fd, osl⟩ ∧ PySem.W.codeIn K cdv qual = true
  kp : PySem.W.keepIn K (.ref f) = true
section
variable {P : Program} {w : World} {K : PySem.W.Frag} {mg : Str → Option Value} {base : Heap}
theorem Fun.ok {x qual : Str} {st : Stmt} {f : Addr} {fd : FuncData} {N ps : List Str} {k : Nat} {sp : Sp} (F : Fun K x qual st f fd) (S : FnScope N ps (defScope st)) (len : ∀ vs H Q E, sp vs H Q E → vs.length = ps.length)
    (hbody : ∀ (cdv : Value) (A : Around) (outer : List Env) (s : Shared) (H : Hp) (vs : List V) (Q : VK) (E : XK), Room k (A.deeper (envOfC qual (defScope st) s.heap.objs.size f cdv)) → sp vs H Q E →
      ∃ t, PSs (cxOf CX0 P w K mg base N qual (defScope st) f cdv A outer s H E).nox (defBody st) t ∧ t { nx := fun _ H' => Q .non H', rt := Q } (start N vs) H) : FnOk P w K mg base CX0 (k + 1) f fd ps sp := by
  obtain ⟨oc, od, kV, doc, pm, an, cdv, ct, osl, rfl, lk, hcd⟩ := F.ex
  refine fn_of lk hcd S len fun A outer s H vs Q E hr hsp => ?_
  obtain ⟨t, h, q⟩ := hbody cdv A outer s H vs Q E hr hsp
  exact ⟨t, h.nox, q⟩
theorem Fun.binds {x qual : Str} {st : Stmt} {f : Addr} {fd : FuncData} {ps : List Str} (F : Fun K x qual st f fd)
    (h : ∀ (kV doc pm : Value) (an : Option Addr) (cdv ct : Value) (us : List Value), us.length = ps.length → bindArgs (PySem.W.fnOf x qual (defArgs st) (defBody st) (defScope st) .none kV doc pm an cdv ct) ⟨us, []⟩ = pure (ps.zip us)) : Binds K fd ps [] := by
  obtain ⟨oc, od, kV, doc, pm, an, cdv, ct, osl, rfl, lk, hcd⟩ := F.ex
  exact .all (h kV doc pm an cdv ct)
theorem fun_mk {x qual : Str} {st : Stmt} {f : Addr} {oc : Value} {od an : Option Addr} {osl : Array (Option Value)} {kV doc pm cdv ct : Value} (l : K.lookup f = some ⟨oc, od, .func (PySem.W.fnOf x qual (defArgs st) (defBody st) (defScope st) .none kV doc pm an cdv ct), osl⟩)
    (c : PySem.W.codeIn K cdv qual = true) (k : PySem.W.keepIn K (.ref f) = true) : Fun K x qual st f (PySem.W.fnOf x qual (defArgs st) (defBody st) (defScope st) .none kV doc pm an cdv ct) := ⟨⟨oc, od, kV, doc, pm, an, cdv, ct, osl, rfl, l, c⟩, k⟩
end
def Same (H H' : Hp) : Prop := ∀ b o, H b = some o → H' b = some o
theorem Same.refl (H : Hp) : Same H H := fun _ _ h => h
end L2
set_option Elab.async false
set_option linter.all false
set_option maxRecDepth 100000
namespace L2
open PySem PySem.Spec PyProof.Rows
def clOf (cells : List (Str × Addr)) : List (Str × NameKind) → List (Str × Addr) → List (Str × Addr)
  | [], acc => acc
  | (n, k) :: r, acc => if k == .free then clOf cells r ((n, (cells.lookup n).getD 0) :: acc) else clOf cells r acc

theorem clOf_run (env : Env) : ∀ (names : List (Str × NameKind)) (acc : List (Str × Addr)), (∀ y ∈ names, y.2 = .free → ∃ c, env.cells.lookup y.1 = some c) →
    (forIn names acc fun (x : Str × NameKind) (cs : List (Str × Addr)) =>
      match x with
      | (name, kind) => if (kind == .free) = true then (do let c ← cellOf env name; pure (ForInStep.yield ((name, c) :: cs))) else pure (ForInStep.yield cs)) = (pure (clOf env.cells names acc) : Sem _)
  | [], acc, _ => rfl
  | (n, k) :: r, acc, h => by
    rw [List.forIn_cons]
    by_cases hk : (k == NameKind.free) = true
    · obtain ⟨c, hc⟩ := h (n, k) List.mem_cons_self (eq_of_beq hk)
      have e : cellOf env n = pure c := by unfold cellOf; rw [show env.cells.lookup n = some c from hc]
      simp only [hk, if_true, e, clOf]
      rw [show env.cells.lookup n = some c from hc]
      simp only [pure_bind, Option.getD_some]
      exact clOf_run env r _ fun y hy => h y (List.mem_cons_of_mem _ hy)
    · simp only [hk, if_false, clOf, pure_bind]
      exact clOf_run env r _ fun y hy => h y (List.mem_cons_of_mem _ hy)
theorem closure_of {scope : Scope} {env : Env} (h : ∀ y ∈ scope.names, y.2 = .free → ∃ c, env.cells.lookup y.1 = some c) : closureFor scope env = pure (clOf env.cells scope.names []) := by
  have e := clOf_run env scope.names [] h
  simp only [closureFor]
  simp only [bind_pure_comp, map_pure] at e ⊢
  first | exact e | (rw [e]; rfl) | (simp only [e]; rfl)

theorem clOf_fwd {cells : List (Str × Addr)} {x : Str} {c : Addr} : ∀ {names : List (Str × NameKind)} {acc : List (Str × Addr)}, (∀ y ∈ names, y.2 = .free → ∃ c, cells.lookup y.1 = some c) → (∀ z, acc.lookup x = some z → cells.lookup x = some z) →
    (clOf cells names acc).lookup x = some c → cells.lookup x = some c
  | [], acc, _, ha, h => ha c h
  | (n, k) :: r, acc, hf, ha, h => by
    unfold clOf at h
    by_cases hk : (k == NameKind.free) = true
    · rw [if_pos hk] at h
      refine clOf_fwd (fun y hy => hf y (List.mem_cons_of_mem _ hy)) (fun z hz => ?_) h
      rw [List.lookup_cons] at hz
      split at hz
      · rename_i q
        have e : x = n := eq_of_beq q
        subst e
        obtain ⟨d, hd⟩ := hf (x, k) List.mem_cons_self (eq_of_beq hk)
        have hd' : cells.lookup x = some d := hd
        rw [hd'] at hz ⊢
        exact hz
      · exact ha z hz
    · rw [if_neg hk] at h
      exact clOf_fwd (fun y hy => hf y (List.mem_cons_of_mem _ hy)) ha h
theorem clOf_acc {cells : List (Str × Addr)} {x : Str} {c : Addr} (hc : cells.lookup x = some c) : ∀ {names : List (Str × NameKind)} {acc : List (Str × Addr)}, ((x, NameKind.free) ∈ names ∨ acc.lookup x = some c) →
    (clOf cells names acc).lookup x = some c
  | [], acc, h => by
    rcases h with h | h
    · cases h
    · exact h
  | (n, k) :: r, acc, h => by
    unfold clOf
    by_cases hk : (k == NameKind.free) = true
    · rw [if_pos hk]
      refine clOf_acc hc ?_
      by_cases hn : x = n
      · subst hn
        right
        rw [List.lookup_cons]
        simp [hc]
      · rcases h with h | h
        · rcases List.mem_cons.mp h with h | h
          · injection h with h1 _; exact absurd h1 hn
          · exact .inl h
        · right
          rw [List.lookup_cons]
          have : (x == n) = false := beq_eq_false_iff_ne.mpr hn
          rw [this]
          exact h
    · rw [if_neg hk]
      refine clOf_acc hc ?_
      rcases h with h | h
      · rcases List.mem_cons.mp h with h | h
        · injection h with _ h2; subst h2; exact absurd rfl hk
        · exact .inl h
      · exact .inr h
theorem relabel_free {env : Env} {x : Str} : ∀ {names : List (Str × NameKind)}, (∀ y ∈ names, y.2 ≠ .cell) →
    ((names.map fun (n, k) => if (k == NameKind.free && env.scope.kind == .function && env.kindOf n == some .cell) = true then (n, NameKind.cell) else (n, k)).lookup x = some .cell ∨
      (names.map fun (n, k) => if (k == NameKind.free && env.scope.kind == .function && env.kindOf n == some .cell) = true then (n, NameKind.cell) else (n, k)).lookup x = some .free) → (x, NameKind.free) ∈ names
  | [], _, h => by rcases h with h | h <;> cases h
  | (n, k) :: r, hn, h => by
    have ih := @relabel_free env x r fun y hy => hn y (List.mem_cons_of_mem _ hy)
    rw [List.map_cons] at h
    cases hx : x == n with
    | true =>
      have e : x = n := eq_of_beq hx
      subst e
      by_cases hc : (k == NameKind.free && env.scope.kind == .function && env.kindOf x == some .cell) = true
      · have hk : (k == NameKind.free) = true := by
          rw [Bool.and_eq_true, Bool.and_eq_true] at hc
          exact hc.1.1
        have hk' : k = .free := eq_of_beq hk
        subst hk'
        exact List.mem_cons_self
      · have hc' : (if (k == NameKind.free && env.scope.kind == .function && env.kindOf x == some .cell) = true then (x, NameKind.cell) else (x, k)) = (x, k) := if_neg hc
        simp only [hc', List.lookup_cons, beq_self_eq_true] at h
        have hk : k = .cell ∨ k = .free := by
          rcases h with h | h
          · exact .inl (Option.some.inj h)
          · exact .inr (Option.some.inj h)
        rcases hk with hk | hk
        · exact absurd hk (hn (x, k) List.mem_cons_self)
        · subst hk; exact List.mem_cons_self
    | false =>
      refine List.mem_cons_of_mem _ (ih ?_)
      by_cases hc : (k == NameKind.free && env.scope.kind == .function && env.kindOf n == some .cell) = true
      · have hc' : (if (k == NameKind.free && env.scope.kind == .function && env.kindOf n == some .cell) = true then (n, NameKind.cell) else (n, k)) = (n, NameKind.cell) := if_pos hc
        simp only [hc', List.lookup_cons, hx] at h
        exact h
      · have hc' : (if (k == NameKind.free && env.scope.kind == .function && env.kindOf n == some .cell) = true then (n, NameKind.cell) else (n, k)) = (n, k) := if_neg hc
        simp only [hc', List.lookup_cons, hx] at h
        exact h
theorem relabel_lookup_free {env : Env} {x : Str} : ∀ {names : List (Str × NameKind)}, names.lookup x = some .free →
    (names.map fun (n, k) => if (k == NameKind.free && env.scope.kind == .function && env.kindOf n == some .cell) = true then (n, NameKind.cell) else (n, k)).lookup x = some .cell ∨
      (names.map fun (n, k) => if (k == NameKind.free && env.scope.kind == .function && env.kindOf n == some .cell) = true then (n, NameKind.cell) else (n, k)).lookup x = some .free
  | [], h => by cases h
  | (n, k) :: r, h => by
    have ih := @relabel_lookup_free env x r
    rw [List.map_cons]
    rw [List.lookup_cons] at h
    cases hx : x == n with
    | true =>
      rw [hx] at h
      have hk : k = .free := Option.some.inj h
      subst hk
      by_cases hc : (NameKind.free == NameKind.free && env.scope.kind == .function && env.kindOf n == some .cell) = true
      · have hc' : (if (NameKind.free == NameKind.free && env.scope.kind == .function && env.kindOf n == some .cell) = true then (n, NameKind.cell) else (n, NameKind.free)) = (n, NameKind.cell) := if_pos hc
        simp only [hc', List.lookup_cons, hx]
        exact .inl trivial
      · have hc' : (if (NameKind.free == NameKind.free && env.scope.kind == .function && env.kindOf n == some .cell) = true then (n, NameKind.cell) else (n, NameKind.free)) = (n, NameKind.free) := if_neg hc
        simp only [hc', List.lookup_cons, hx]
        exact .inr trivial
    | false =>
      rw [hx] at h
      have q := ih h
      by_cases hc : (k == NameKind.free && env.scope.kind == .function && env.kindOf n == some .cell) = true
      · have hc' : (if (k == NameKind.free && env.scope.kind == .function && env.kindOf n == some .cell) = true then (n, NameKind.cell) else (n, k)) = (n, NameKind.cell) := if_pos hc
        simp only [hc', List.lookup_cons, hx]
        exact q
      · have hc' : (if (k == NameKind.free && env.scope.kind == .function && env.kindOf n == some .cell) = true then (n, NameKind.cell) else (n, k)) = (n, k) := if_neg hc
        simp only [hc', List.lookup_cons, hx]
        exact q
theorem mem_of_lookup_free {x : Str} {k : NameKind} : ∀ {names : List (Str × NameKind)}, names.lookup x = some k → (x, k) ∈ names := fun h => PySem.mem_of_lookup h

def Cx.comp (X : Cx) (scope : Scope) (cl : List (Str × Addr)) (C : Addr) (s₀ : Shared) (H₀ : Hp) (fp : List Addr) (N' : List Str) : Cx :=
  { prog := X.prog, w := X.w, K := X.K, mg := X.mg, base := X.base, A := X.A, N := N', s₀ := s₀, H₀ := H₀, env := compEnvC scope cl C X.env, outer := X.stack, stack := X.stack, ex := fp, fn := fun _ => false, calm := X.calm, pn := [], xe := fun _ _ => False }

structure CompScope (X : Cx) (N' : List Str) (ix : List (Option Nat)) (scope : Scope) : Prop where
  kind : scope.kind = .function
  nocell : ∀ y ∈ scope.names, y.2 ≠ .cell
  names : ∀ y ∈ scope.names, y.2 = .local → scope.names.lookup y.1 = some .local
  free : ∀ y ∈ scope.names, y.2 = .free → X.env.kindOf y.1 = some .cell ∨ X.env.kindOf y.1 = some .free
  len : ix.length = N'.length
  ixok : ∀ (i j : Nat) (x : Str), ix[i]? = some (some j) → N'[i]? = some x → X.N[j]? = some x ∧ scope.names.lookup x = some .free

def tau (ix : List (Option Nat)) (σ : St) : St := ix.map fun o => match o with | none => none | some j => (σ[j]?).join

def tComp (ix : List (Option Nat)) (wi : TI) (g : TG) (tt : TT) (te : TE) : TE := fun σ H Q =>
  wi σ H fun J H1 => ∀ D, H1 D = none →
    ∃ W : Nat → Nat → List V → Hp → Prop, (∃ m, W 0 m [] (upd H1 D (.lst []))) ∧
    ∀ i m acc H2, W i m acc H2 → H2 D = some (.lst acc) →
      (J.stop i H2 ∧ Q (.ref D) H2) ∨
      (J.go i H2 ∧ acc.length < sizeLine ∧ ∀ x H3, J.yld i H2 x H3 → g x (tau ix σ) H3 fun τ H4 => (τ.length = ix.length ∧ ∀ (k : Nat) v, (tau ix σ)[k]? = some (some v) → τ[k]? = some (some v)) ∧
        tt τ H4 fun b H5 => if b = true then te τ H5 fun y H6 => H6 D = some (.lst acc) ∧ ∃ m', m' < m ∧ W (i + 1) m' (acc ++ [y]) (upd H6 D (.lst (acc ++ [y])))
          else H5 D = some (.lst acc) ∧ ∃ m', m' < m ∧ W (i + 1) m' acc H5)

def PTs (X : Cx) (ifs : List Expr) (t : TT) : Prop :=
  ∀ (pins : List (Addr × Obj)) (s : Shared) (σ : St) (H : Hp) (Q : Bool → Hp → Prop), Inv X pins σ H s → t σ H Q →
    wpAny (model X.prog X.w) X.A (forIn ifs true fun c r => if r = true then do let ok ← isTrue c X.env (eval c X.env); pure (ForInStep.yield ok) else pure (ForInStep.yield r)) (TP X pins σ Q) X.xe s
theorem pts_one {X : Cx} {c : Expr} {t : TT} (h : PT X c t) : PTs X [c] t := fun pins s σ H Q I hw => wpAny_tests_one (h pins s σ H Q I hw)

section
variable {prog : Program} {w : World} {A : Around} {R : Result → Shared → Prop} {s : Shared}
theorem compLoop_any {elt target iter : Expr} {ifs : List Expr} {scope : Scope} {pos : Pos} {it acc : Value} {env : Env} (I : Nat → Shared → Prop)
    (turn : ∀ n s, I n s → wpAny (model prog w) A (pyNext it) (fun r s₁ => match r with
      | none => R (.ok .next) s₁
      | some v => wpAny (model prog w) A (letOwnedTupleGo target it v) (fun _ s₁' => wpAny (model prog w) A (assign target env v) (fun _ s₂ =>
          wpAny (model prog w) A (forIn ifs true fun c r => if r = true then do let ok ← isTrue c env (eval c env); pure (ForInStep.yield ok) else pure (ForInStep.yield r)) (fun ok s₃ =>
            if ok = true then wpAny (model prog w) A (eval elt env) (fun x s₄ =>
              wpAny (model prog w) A (call (.builtin "list.append") [acc, x]) (fun _ s₅ => ∃ m, m < n ∧ I m s₅) (fun _ _ => False) s₄) (fun _ _ => False) s₃
            else ∃ m, m < n ∧ I m s₃) (fun _ _ => False) s₂) (fun _ _ => False) s₁') (fun _ _ => False) s₁) (fun _ _ => False) s)
    (n : Nat) (h : I n s) :
    codeAny (model prog w) A (.compLoop (.ListComp elt [⟨target, iter, ifs, 0⟩] scope pos) 0 it acc env) R s := by
  refine codeAny_loop rfl I (fun n s hI => ?_) n h
  show wpAny _ A ((compTurn (.ListComp elt [⟨target, iter, ifs, 0⟩] scope pos) 0 it acc env).onRaise (fun x => do noteFrame x env; theTreesLotGoes x)) _ _ s
  refine wpAny_noted ?_
  rw [compTurn_list]
  refine wpAny_bind (wpAny_standAt (wpAny_bind (wpAny_mono (turn n s hI) (fun r s₁ h₁ => ?_) fun _ _ h' => h'.elim)))
  cases r with
  | none => exact wpAny_pure h₁
  | some v =>
    refine wpAny_bind (wpAny_mono h₁ (fun _ s₁' h₁' => ?_) fun _ _ h' => h'.elim)
    refine wpAny_bind (wpAny_mono h₁' (fun _ s₂ h₂ => wpAny_bind (wpAny_mono h₂ (fun ok s₃ h₃ => ?_) fun _ _ h' => h'.elim)) fun _ _ h' => h'.elim)
    cases ok with
    | false => exact wpAny_pure ⟨rfl, h₃⟩
    | true =>
      exact wpAny_bind (wpAny_bind (wpAny_mono h₃ (fun x s₄ h₄ => wpAny_bind (wpAny_mono h₄ (fun _ s₅ h₅ => wpAny_pure (wpAny_pure ⟨rfl, h₅⟩)) fun _ _ h' => h'.elim)) fun _ _ h' => h'.elim))
end
section
variable {X : Cx}
theorem comp_start {pins : List (Addr × Obj)} {σ : St} {H1 : Hp} {s2 : Shared} {N' : List Str} {ix : List (Option Nat)} {scope : Scope} {fp : List Addr} {h₁ : Heap}
    (S : CompScope X N' ix scope) (I : Inv X pins σ H1 s2) (f2 : ∀ b ∈ fp, FpOk X pins H1 b) (hfp : ∀ b ∈ fp, b < s2.heap.objs.size)
    (hns : h₁.Ns (s2.heap.objs.size + 1) (fun x => ([] : List (Str × Value)).reverse.lookup x))
    (hsb : Heap.SameBut (s2.heap.objs.size + 1) ((s2.heap.push { cls := .type "list", dict := none, data := .seq ([] : List Value).toArray }).push { cls := .type "dict", data := .dict #[] }) h₁) (tk : Nat) :
    Inv (X.comp scope (clOf X.env.cells scope.names []) (s2.heap.objs.size + 1) { s2 with heap := s2.heap.push { cls := .type "list", dict := none, data := .seq ([] : List Value).toArray } } (upd H1 s2.heap.objs.size (.lst [])) fp N') [] (tau ix σ)
      (upd H1 s2.heap.objs.size (.lst [])) { s2 with heap := h₁, toks := tk } := by
  have hfr : ∀ y ∈ scope.names, y.2 = .free → ∃ c, X.env.cells.lookup y.1 = some c := fun y hy e => I.ok.has _ (S.free y hy e)
  have fwd : ∀ x c, (clOf X.env.cells scope.names []).lookup x = some c → X.env.cells.lookup x = some c := fun x c h => clOf_fwd hfr (fun z hz => by cases hz) h
  have I3 : Inv X pins σ (upd H1 s2.heap.objs.size (.lst [])) { s2 with heap := s2.heap.push { cls := .type "list", dict := none, data := .seq ([] : List Value).toArray } } := I.lnew (t' := s2.toks) (ys := []) .nil (Nat.zero_le _)
  have sz3 : (s2.heap.push { cls := .type "list", dict := none, data := .seq ([] : List Value).toArray }).objs.size = s2.heap.objs.size + 1 := Heap.size_push ..
  have old : ∀ b o, (s2.heap.push { cls := .type "list", dict := none, data := .seq ([] : List Value).toArray }).get? b = some o → h₁.get? b = some o := fun b o e =>
    hsb.extBut b o (by have := Heap.lt_size e; rw [sz3] at this; exact Nat.ne_of_lt this) (Heap.get?_push_of_some _ e)
  have ncell : ∀ x c, X.env.cells.lookup x = some c → c < s2.heap.objs.size := fun x c e => by
    obtain ⟨v, z⟩ := I.cell x c e
    exact z.lt
  refine ⟨⟨I.ok.mod, ?_, I.ok.glob, I.ok.blt, ?_, fun x y c h1 h2 => I.ok.inj x y c (fwd x c h1) (fwd y c h2), fun x hx => ?_, fun _ _ h => (nomatch h), I.ok.hd, I.ok.frames, .inl rfl, fun b hb => ⟨?_, fun x c e => ?_⟩, fun b o e => I3.bs b o e, ?_, fun b o e hb => ?_, fun b hb => ?_, I3.stack, I3.stkFree⟩,
    rfl, I.bare, Un.kept old, ⟨_, hns, fun i x v h1 h2 h3 => ?_⟩, fun x c e => ?_, ?_, fun x c e => ?_, fun p hp => absurd (show p ∈ ([] : List (Addr × Obj)) from hp) (by simp), I3.hok.kept old, ?_⟩
  · show (relabel scope X.env).kind = .function
    exact S.kind
  · show (s2.heap.push { cls := .type "list", dict := none, data := .seq ([] : List Value).toArray }).objs.size ≤ s2.heap.objs.size + 1
    rw [sz3]; exact Nat.le_refl _
  · have hx' : (x, NameKind.free) ∈ scope.names := relabel_free (env := X.env) S.nocell hx
    obtain ⟨c, hc⟩ := hfr _ hx' rfl
    exact ⟨c, clOf_acc hc (.inl hx')⟩
  · show b ≠ s2.heap.objs.size + 1
    exact Nat.ne_of_lt (Nat.lt_succ_of_lt (hfp b hb))
  · exact (f2 b hb).2.2.2.2.1 x c (fwd x c e)
  · show X.base.objs.size ≤ (s2.heap.push { cls := .type "list", dict := none, data := .seq ([] : List Value).toArray }).objs.size
    rw [sz3]
    exact Nat.le_succ_of_le (Nat.le_trans I.ok.bsz I.sz)
  · rcases (f2 b hb).2.2.2.1 with z | z
    · exact I.ok.noex b o e z
    · exact absurd (Nat.lt_of_lt_of_le (Heap.lt_size e) (Nat.le_trans I.ok.bsz z)) (Nat.lt_irrefl _)
  · intro hm
    rcases List.mem_cons.mp (I.stkSub b hm) with z | z
    · exact (f2 b hb).2.1 z
    · exact (f2 b hb).2.2.1 z
  · have hi : ∃ j, ix[i]? = some (some j) ∧ σ[j]? = some (some v) := by
      unfold tau at h2
      rw [List.getElem?_map] at h2
      cases e : ix[i]? with
      | none => rw [e] at h2; cases h2
      | some o =>
        rw [e] at h2
        cases o with
        | none => cases h2
        | some j =>
          refine ⟨j, rfl, ?_⟩
          have h2' : (σ[j]?).join = some v := Option.some.inj h2
          cases e2 : σ[j]? with
          | none => rw [e2] at h2'; cases h2'
          | some q => rw [e2] at h2'; exact congrArg some h2'
    obtain ⟨j, hj, hσ⟩ := hi
    obtain ⟨hN, hfree⟩ := S.ixok i j x hj h1
    have hmem : (x, NameKind.free) ∈ scope.names := mem_of_lookup_free hfree
    have hk := S.free _ hmem rfl
    obtain ⟨m, hn, hl⟩ := I3.loc
    obtain ⟨u, r, l⟩ := hl j x v hN hσ (by rcases hk with k | k; exact .inr (.inl k); exact .inr (.inr k))
    refine ⟨u, r, ?_⟩
    rcases l with ⟨k, _⟩ | ⟨_, c, hc, z⟩
    · rcases hk with q | q
      · rw [show X.env.kindOf x = some .cell from q] at k; cases k
      · rw [show X.env.kindOf x = some .free from q] at k; cases k
    · refine .inr ⟨?_, c, clOf_acc hc (.inl hmem), z.keeps old⟩
      exact relabel_lookup_free (env := X.env) hfree
  · obtain ⟨v, z⟩ := I3.cell x c (fwd x c e)
    exact ⟨v, z.keeps old⟩
  · show (upd H1 s2.heap.objs.size (.lst [])) (s2.heap.objs.size + 1) = none
    rw [upd_ne (Nat.succ_ne_self _)]
    exact I.hok.fresh (Nat.le_succ _)
  · exact I3.freeC x c (fwd x c e)
  · show (tau ix σ).length = N'.length
    unfold tau
    rw [List.length_map]
    exact S.len

theorem comp_block {pins : List (Addr × Obj)} {σ : St} {H1 : Hp} {s2 : Shared} {N' : List Str} {ix : List (Option Nat)} {scope : Scope} {fp : List Addr} {it : Addr} {tn : Nat → Heap → Prop} {J : It}
    {elt tg iter : Expr} {ifs : List Expr} {pos : Pos} {g : TG} {tt : TT} {te : TE} {Q : VK} {RR : Value → Addr → Result → Shared → Prop}
    (S : CompScope X N' ix scope) (hcalm : X.calm = true) (I : Inv X pins σ H1 s2) (T : Turn X.prog X.w X.K tg J fp it tn) (st : tn 0 s2.heap) (f2 : ∀ b ∈ fp, FpOk X pins H1 b)
    (hg : ∀ C s₀ H₀, PG (X.comp scope (clOf X.env.cells scope.names []) C s₀ H₀ fp N') tg g)
    (ht : ∀ C s₀ H₀, PTs (X.comp scope (clOf X.env.cells scope.names []) C s₀ H₀ fp N') ifs tt)
    (he : ∀ C s₀ H₀, PE (X.comp scope (clOf X.env.cells scope.names []) C s₀ H₀ fp N') elt te)
    (h : ∀ D, H1 D = none →
      ∃ W : Nat → Nat → List V → Hp → Prop, (∃ m, W 0 m [] (upd H1 D (.lst []))) ∧
      ∀ i m acc H2, W i m acc H2 → H2 D = some (.lst acc) →
        (J.stop i H2 ∧ Q (.ref D) H2) ∨
        (J.go i H2 ∧ acc.length < sizeLine ∧ ∀ x H3, J.yld i H2 x H3 → g x (tau ix σ) H3 fun τ H4 => (τ.length = ix.length ∧ ∀ (k : Nat) v, (tau ix σ)[k]? = some (some v) → τ[k]? = some (some v)) ∧
          tt τ H4 fun b H5 => if b = true then te τ H5 fun y H6 => H6 D = some (.lst acc) ∧ ∃ m', m' < m ∧ W (i + 1) m' (acc ++ [y]) (upd H6 D (.lst (acc ++ [y])))
            else H5 D = some (.lst acc) ∧ ∃ m', m' < m ∧ W (i + 1) m' acc H5))
    (hRR : ∀ D C s' H', Inv X pins σ H' s' → Q (.ref D) H' → (∃ m, s'.heap.Ns C m) → H' C = none → C ≠ X.env.locals → X.s₀.heap.objs.size ≤ C → (∀ x c, X.env.cells.lookup x = some c → c ≠ C) → (∀ p ∈ X.pn ++ pins, p.1 ≠ C) → RR (.ref D) C (.ok .next) s') :
    wpAny (model X.prog X.w) X.A (newList []) (fun acc s₃ => wpAny (model X.prog X.w) X.A (newFunctionEnv scope X.env.globals (clOf X.env.cells scope.names []) [] X.env.qual none .none (some X.env)) (fun cenv s₄ =>
      codeAny (model X.prog X.w) X.A (.compStart (.ListComp elt [⟨tg, iter, ifs, 0⟩] scope pos) 0 (.ref it) acc { cenv with scope := relabel scope X.env }) (RR acc cenv.locals) s₄) X.xe s₃) X.xe s2 := by
  have hfp : ∀ b ∈ fp, b < s2.heap.objs.size := fun b hb => by
    obtain ⟨o, e, _⟩ := T.obj _ _ st b hb
    exact Heap.lt_size e
  refine wpAny_newObj_type (wpAny_newFunctionEnv S.nocell (by intro y hy; simp at hy) (fun h₁ hns₁ hsb₁ => ?_) S.kind)
  have sz3 : (s2.heap.push { cls := .type "list", dict := none, data := .seq ([] : List Value).toArray }).objs.size = s2.heap.objs.size + 1 := Heap.size_push ..
  dsimp only at hns₁ hsb₁ ⊢
  rw [sz3] at hns₁ hsb₁ ⊢
  obtain ⟨W, ⟨m0, w0⟩, turn⟩ := h s2.heap.objs.size (I.hok.fresh (Nat.le_refl _))
  have I4 := comp_start (N' := N') (ix := ix) (fp := fp) S I f2 hfp hns₁ hsb₁ (s2.toks + ([] : List (Str × Value)).length)
  generalize hX' : X.comp scope (clOf X.env.cells scope.names []) (s2.heap.objs.size + 1) { s2 with heap := s2.heap.push { cls := .type "list", dict := none, data := .seq ([] : List Value).toArray } } (upd H1 s2.heap.objs.size (.lst [])) fp N' = X' at I4
  have old : ∀ b o, s2.heap.get? b = some o → h₁.get? b = some o := fun b o e =>
    hsb₁.extBut b o (Nat.ne_of_lt (Nat.lt_succ_of_lt (Heap.lt_size e))) (Heap.get?_push_of_some _ (Heap.get?_push_of_some _ e))
  have st4 : tn 0 h₁ := T.keep _ _ _ st fun b _ o e => old b o e
  have n4 : ∀ b ∈ fp, (upd H1 s2.heap.objs.size (.lst [])) b = none := fun b hb => by rw [upd_ne (Nat.ne_of_lt (hfp b hb))]; exact (f2 b hb).1
  have stat : ∀ {H' : Hp}, (∀ b ∈ fp, H' b = none) → ∀ b ∈ fp, FpOk X' [] H' b := fun {H'} hn b hb => by
    subst hX'
    refine ⟨hn b hb, Nat.ne_of_lt (Nat.lt_succ_of_lt (hfp b hb)), fun hm => ?_, .inl hb, fun x c e => ?_, fun p hp => absurd (show p ∈ ([] : List (Addr × Obj)) from hp) (by simp)⟩
    · rcases List.mem_cons.mp (I.stkSub b hm) with z | z
      · exact (f2 b hb).2.1 z
      · exact (f2 b hb).2.2.1 z
    · exact (f2 b hb).2.2.2.2.1 x c (clOf_fwd (fun y hy e => I.ok.has _ (S.free y hy e)) (fun z hz => by cases hz) e)
  have loop : ∀ s₄ : Shared, s₄ = { s2 with heap := h₁, toks := s2.toks + ([] : List (Str × Value)).length } →
      codeAny (model X.prog X.w) X.A (.compLoop (.ListComp elt [⟨tg, iter, ifs, 0⟩] scope pos) 0 (.ref it) (.ref s2.heap.objs.size) (compEnvC scope (clOf X.env.cells scope.names []) (s2.heap.objs.size + 1) X.env)) (RR (.ref s2.heap.objs.size) (s2.heap.objs.size + 1)) s₄ := by
    rintro s₄ rfl
    refine compLoop_any (fun n s' => ∃ i acc H', Inv X' [] (tau ix σ) H' s' ∧ tn i s'.heap ∧ (∀ b ∈ fp, H' b = none) ∧ H' s2.heap.objs.size = some (.lst acc) ∧ W i n acc H') ?_ m0
      ⟨0, [], _, I4, st4, n4, upd_same, w0⟩
    rintro n s5 ⟨i, acc, H5, I5, st5, fr5, hD5, w5⟩
    have pE : X'.prog = X.prog := by subst hX'; rfl
    have wE : X'.w = X.w := by subst hX'; rfl
    have kE : X'.K = X.K := by subst hX'; rfl
    have aE : X'.A = X.A := by subst hX'; rfl
    have cE : X'.calm = true := by subst hX'; exact hcalm
    rcases turn i n acc H5 w5 hD5 with ⟨stop, q⟩ | ⟨go, hz, step⟩
    · have z := T.done X' pE wE kE cE i [] s5 (tau ix σ) H5 (fun _ _ => False) I5 (stat fr5) st5 stop
      rw [aE] at z
      refine thn z fun r s6 ⟨hr, I6⟩ => ?_
      subst hr
      have I6' := I6
      subst hX'
      have bs6 := I6.base
      have un : Un (frs X.stack) fp H1 H5 s2.heap s6.heap := Un.trans (Un.laid (o := .lst []) (fun b u q => Heap.get?_push_of_some _ q) (Nat.le_refl _) (I.hok.fresh (Nat.le_refl _))) bs6
      have IX : Inv X pins σ H5 s6 := Inv.call' I I6.os un I6.hok I6.bare fun b hb => ⟨(f2 b hb).2.2.2.1, (f2 b hb).2.1, (f2 b hb).2.2.2.2.1, (f2 b hb).2.2.2.2.2⟩
      refine hRR _ _ s6 H5 IX q ?_ I6.free ?_ ?_ ?_ ?_
      · obtain ⟨m, hn, _⟩ := I6.loc
        exact ⟨m, hn⟩
      · exact Nat.ne_of_gt (Nat.lt_succ_of_lt I.lt)
      · exact Nat.le_succ_of_le I.sz
      · intro x c e
        obtain ⟨v, z⟩ := I.cell x c e
        exact Nat.ne_of_lt (Nat.lt_succ_of_lt z.lt)
      · intro p hp
        exact Nat.ne_of_lt (Nat.lt_succ_of_lt (Heap.lt_size (I.pin p hp).1))
    · have z := T.item X' pE wE kE cE i [] s5 (tau ix σ) H5 (fun _ _ => False) I5 (stat fr5) st5 go
      rw [aE] at z
      refine thn z fun r s6 ⟨u, hr, h6⟩ => ?_
      subst hr
      refine thn h6 fun _ s7 ⟨x, H7, I7, r7, y7, st7, fr7⟩ => ?_
      have I7' := I7.pinned (stat fr7) (T.obj _ _ st7)
      have hg' := hg (s2.heap.objs.size + 1) { s2 with heap := s2.heap.push { cls := .type "list", dict := none, data := .seq ([] : List Value).toArray } } (upd H1 s2.heap.objs.size (.lst []))
      have ht' := ht (s2.heap.objs.size + 1) { s2 with heap := s2.heap.push { cls := .type "list", dict := none, data := .seq ([] : List Value).toArray } } (upd H1 s2.heap.objs.size (.lst []))
      have he' := he (s2.heap.objs.size + 1) { s2 with heap := s2.heap.push { cls := .type "list", dict := none, data := .seq ([] : List Value).toArray } } (upd H1 s2.heap.objs.size (.lst []))
      subst hX'
      have back : ∀ {τ : St} {H8 : Hp} {s8 : Shared}, (τ.length = ix.length ∧ ∀ (k : Nat) v, (tau ix σ)[k]? = some (some v) → τ[k]? = some (some v)) →
          Inv (X.comp scope (clOf X.env.cells scope.names []) (s2.heap.objs.size + 1) { s2 with heap := s2.heap.push { cls := .type "list", dict := none, data := .seq ([] : List Value).toArray } } (upd H1 s2.heap.objs.size (.lst [])) fp N') ([] ++ pinsAt fp s7.heap) τ H8 s8 →
          ∀ {acc' : List V} {m' : Nat}, H8 s2.heap.objs.size = some (.lst acc') → W (i + 1) m' acc' H8 → m' < n →
          ∃ m, m < n ∧ ∃ i acc H', Inv (X.comp scope (clOf X.env.cells scope.names []) (s2.heap.objs.size + 1) { s2 with heap := s2.heap.push { cls := .type "list", dict := none, data := .seq ([] : List Value).toArray } } (upd H1 s2.heap.objs.size (.lst [])) fp N') [] (tau ix σ) H' s8 ∧ tn i s8.heap ∧ (∀ b ∈ fp, H' b = none) ∧ H' s2.heap.objs.size = some (.lst acc) ∧ W i m acc H' := fun {τ H8 s8} hτ I8 {acc' m'} hD8 w8 hm => by
        refine ⟨m', hm, i + 1, acc', H8, (Inv.unpinned I8).weak (by rw [hτ.1]; unfold tau; rw [List.length_map]) hτ.2, T.keep _ _ _ st7 fun b hb o e => (I8.pin (b, o) (List.mem_append_right _ (List.mem_append_right _ (mem_pinsAt hb e)))).1, fun b hb => ?_, hD8, w8⟩
        obtain ⟨o, e, d⟩ := T.obj _ _ st7 b hb
        exact (I8.pin (b, o) (List.mem_append_right _ (List.mem_append_right _ (mem_pinsAt hb e)))).2.1
      refine thn (hg' _ s7 (tau ix σ) H7 x u _ I7' r7 (step x H7 y7)) fun _ s8 ⟨τ, H8, I8, hτ, q8⟩ => ?_
      refine thn (ht' _ s8 τ H8 _ I8 q8) fun b s9 ⟨H9, I9, q9⟩ => ?_
      cases b with
      | false =>
        obtain ⟨hD9, m', hm, w9⟩ := q9
        exact back hτ I9 hD9 w9 hm
      | true =>
        refine thn (he' _ s9 τ H9 _ I9 q9) fun yv s10 ⟨y, H10, I10, r10, hD10, m', hm, w10⟩ => ?_
        refine thn (mt_append _ s10 τ H10 (.ref s2.heap.objs.size) [y] (.ref s2.heap.objs.size) [yv] (fun v H => v = .non ∧ H = upd H10 s2.heap.objs.size (.lst (acc ++ [y]))) I10 rfl (.cons r10 .nil) ⟨_, acc, y, rfl, rfl, hD10, hz, rfl, rfl⟩) fun _ s11 ⟨v, H11, I11, r11, hv, hH⟩ => ?_
        subst hH
        exact back hτ I11 upd_same w10 hm
  exact codeAny_compStart_list (loop _ rfl) (T.self _ 0 _ _ _ st4 (loop _ rfl))

theorem pe_comp {elt tg iter : Expr} {ifs : List Expr} {scope : Scope} {pos : Pos} {N' : List Str} {ix : List (Option Nat)} {wi : TI} {g : TG} {tt : TT} {te : TE}
    (S : CompScope X N' ix scope) (hcalm : X.calm = true) (hi : PI X tg iter wi)
    (hg : ∀ C s₀ H₀ fp, PG (X.comp scope (clOf X.env.cells scope.names []) C s₀ H₀ fp N') tg g)
    (ht : ∀ C s₀ H₀ fp, PTs (X.comp scope (clOf X.env.cells scope.names []) C s₀ H₀ fp N') ifs tt)
    (he : ∀ C s₀ H₀ fp, PE (X.comp scope (clOf X.env.cells scope.names []) C s₀ H₀ fp N') elt te)
    (hs : ∀ x, foldedSetIterable iter X.env x = pure x := by intro _; rfl) :
    PE X (.ListComp elt [⟨tg, iter, ifs, 0⟩] scope pos) (tComp ix wi g tt te) := by
  intro pins s σ H Q I h
  rw [eval_ListComp]
  refine wpAny_comprehension_free (use := none) rfl hs (closure_of fun y hy e => I.ok.has _ (S.free y hy e)) S.kind S.names (thn (hi pins s σ H _ I h) fun v s1 h1 => thn h1 fun itv s2 h2 => ?_)
  obtain ⟨it, fp, tn, J, H2, e, I2, T, st2, f2, hW⟩ := h2
  subst e
  refine comp_block (RR := fun acc C => compPost (model X.prog X.w) X.A X.xe none (EP X pins σ Q) acc C) S hcalm I2 T st2 f2 (fun C s₀ H₀ => hg C s₀ H₀ fp) (fun C s₀ H₀ => ht C s₀ H₀ fp) (fun C s₀ H₀ => he C s₀ H₀ fp) hW ?_
  intro D C s' H' I' q hn hC hL h1 h2 h3
  obtain ⟨m, hn⟩ := hn
  refine ⟨m, hn, fun h' hs' => ?_⟩
  have I'' : Inv X pins σ H' { s' with heap := h' } := I'.turned (t' := s'.toks) (fun b o hb e => hs'.extBut b o hb e) hC hL.symm.symm (.inr h1) h2 h3
  exact ⟨.ref D, H', I'', rfl, q⟩

end
end L2
set_option Elab.async false
set_option linter.all false
set_option maxRecDepth 100000
namespace L2
open PySem PySem.Spec PyProof.Rows
section
variable {X : Cx} {a b : Expr} {ta tb : TE} {pos : Pos}
theorem op_le_str : OpR X (compareOp .LtE) (fun x y H Q => ∃ i j, x = .str i ∧ y = .str j ∧ Q (.bl (!decide (j.cps.toList < i.cps.toList))) H) := by
  intro pins s σ H x y v u Q I rx ry h
  obtain ⟨i, j, rfl, rfl, q⟩ := h
  obtain ⟨t, rfl⟩ := rx
  obtain ⟨t', rfl⟩ := ry
  exact PySem.P.le_str ⟨.bl _, H, I, rfl, q⟩
theorem op_gt_str : OpR X (compareOp .Gt) (fun x y H Q => ∃ i j, x = .str i ∧ y = .str j ∧ Q (.bl (decide (j.cps.toList < i.cps.toList))) H) := by
  intro pins s σ H x y v u Q I rx ry h
  obtain ⟨i, j, rfl, rfl, q⟩ := h
  obtain ⟨t, rfl⟩ := rx
  obtain ⟨t', rfl⟩ := ry
  exact PySem.P.gt_str ⟨.bl _, H, I, rfl, q⟩
theorem op_ge_str : OpR X (compareOp .GtE) (fun x y H Q => ∃ i j, x = .str i ∧ y = .str j ∧ Q (.bl (!decide (i.cps.toList < j.cps.toList))) H) := by
  intro pins s σ H x y v u Q I rx ry h
  obtain ⟨i, j, rfl, rfl, q⟩ := h
  obtain ⟨t, rfl⟩ := rx
  obtain ⟨t', rfl⟩ := ry
  exact PySem.P.ge_str ⟨.bl _, H, I, rfl, q⟩
theorem op_is_bl : OpR X (compareOp .Is) (fun x y H Q => ∃ i j, x = .bl i ∧ y = .bl j ∧ Q (.bl (i == j)) H) := by
  intro pins s σ H x y v u Q I rx ry h
  obtain ⟨i, j, rfl, rfl, q⟩ := h
  cases rx
  cases ry
  exact is_bool ⟨.bl _, H, I, rfl, q⟩
theorem op_mul_str : OpR X (binaryOp .Mult) (fun x y H Q => ∃ i j, x = .str i ∧ y = .int j ∧ (i.length ≤ 16 ∧ 0 ≤ j ∧ j ≤ 1000) ∧ Q (.str (Txt.mul i j)) H) := by
  intro pins s σ H x y v u Q I rx ry h
  obtain ⟨i, j, rfl, rfl, ⟨h1, h2, h3⟩, q⟩ := h
  obtain ⟨t, rfl⟩ := rx
  obtain ⟨t', rfl⟩ := ry
  exact SB.mul (mulOk_of 16 1000 h1 (by omega) (by omega) (by decide) (by decide)) fun t' k => ⟨.str _, H, I.tok _, ⟨_, rfl⟩, q⟩

def rSlS : V → Option Int → Option Int → Hp → VK → Prop := fun x lo hi H Q => ∃ z, x = .str z ∧ z.length ≤ sizeLine ∧ Q (.str (Txt.slice z lo hi)) H
theorem sl_str : SlR X rSlS := by
  intro pins s σ H x v vl vu lo hi sl Q I rx hs pl pu h
  obtain ⟨z, rfl, hz, q⟩ := h
  obtain ⟨t, rfl⟩ := rx
  refine ⟨"str", _, F.slot_str_getitem.lookup, typeIs_str _ _ _, ?_⟩
  have fin : ∀ t' k, EP X pins σ Q (.str (Txt.slice z lo hi) t') { s with toks := k } := fun t' k => ⟨.str _, H, I.tok _, ⟨_, rfl⟩, q⟩
  obtain ⟨os, e1, e2, e3⟩ := hs
  cases pl with
  | none =>
    cases pu with
    | none => exact wpAny_getItem_str_slice (l := none) (u := none) (st := none) ⟨os, e1, e2, e3⟩ rfl (post_val_or_str ⟨Nat.le_trans (Txt.slice_le z _ _) hz, fin⟩)
    | int j u => exact wpAny_getItem_str_slice (l := none) (u := some (j, u)) (st := none) ⟨os, e1, e2, e3⟩ rfl (post_val_or_str ⟨Nat.le_trans (Txt.slice_le z _ _) hz, fin⟩)
  | int i t2 =>
    cases pu with
    | none => exact wpAny_getItem_str_slice (l := some (i, t2)) (u := none) (st := none) ⟨os, e1, e2, e3⟩ rfl (post_val_or_str ⟨Nat.le_trans (Txt.slice_le z _ _) hz, fin⟩)
    | int j u => exact wpAny_getItem_str_slice (l := some (i, t2)) (u := some (j, u)) (st := none) ⟨os, e1, e2, e3⟩ rfl (post_val_or_str ⟨Nat.le_trans (Txt.slice_le z _ _) hz, fin⟩)
end
end L2
set_option Elab.async false
set_option linter.all false
set_option maxRecDepth 100000
namespace L2
open PySem PySem.Spec PyProof.Rows
inductive D where
  | non | bl (b : Bool) | int (i : Int) | str (x : Str) | tup (ds : List D) | lst (ds : List D)
mutual
def deq : D → D → Bool
  | .non, .non => true
  | .bl a, .bl b => a == b
  | .bl a, .int j => (if a then (1 : Int) else 0) == j
  | .int i, .bl b => i == (if b then (1 : Int) else 0)
  | .int i, .int j => i == j
  | .str x, .str y => x == y
  | .tup a, .tup b => deqs a b
  | .lst a, .lst b => deqs a b
  | _, _ => false
def deqs : List D → List D → Bool
  | [], [] => true
  | x :: xs, y :: ys => deq x y && deqs xs ys
  | _, _ => false
end
mutual
def D.deep : D → Nat
  | .tup ds => D.deeps ds + 1
  | .lst ds => D.deeps ds + 1
  | _ => 0
def D.deeps : List D → Nat
  | [] => 0
  | d :: ds => max d.deep (D.deeps ds)
end
mutual
theorem deq_refl : ∀ d : D, deq d d = true
  | .non => by simp [deq]
  | .bl _ => by simp [deq]
  | .int _ => by simp [deq]
  | .str _ => by simp [deq]
  | .tup ds => by simp [deq, deqs_refl ds]
  | .lst ds => by simp [deq, deqs_refl ds]
theorem deqs_refl : ∀ ds : List D, deqs ds ds = true
  | [] => by simp [deqs]
  | d :: ds => by simp [deqs, deq_refl d, deqs_refl ds]
end
theorem deep_mem : ∀ {ds : List D} {d : D} {j : Nat}, ds[j]? = some d → d.deep ≤ D.deeps ds
  | [], _, _, h => by simp at h
  | d :: ds, e, 0, h => by simp at h; subst h; simp [D.deeps]; omega
  | d :: ds, e, j + 1, h => by
    have := deep_mem (ds := ds) (j := j) (by simpa using h)
    simp [D.deeps]; omega
theorem deqs_range : ∀ {ds ds' : List D}, ((List.range (min ds.length ds'.length)).all (fun j => deq (ds.getD j .non) (ds'.getD j .non)) && (ds.length == ds'.length)) = deqs ds ds'
  | [], [] => by simp [deqs]
  | [], _ :: _ => by simp [deqs]
  | _ :: _, [] => by simp [deqs]
  | d :: ds, d' :: ds' => by
    have ih := deqs_range (ds := ds) (ds' := ds')
    have e : min (d :: ds).length (d' :: ds').length = min ds.length ds'.length + 1 := by simp
    rw [e, List.range_succ_eq_map, List.all_cons, List.all_map]
    simp only [deqs]
    rw [← ih]
    simp [Function.comp_def, Bool.and_assoc]
end L2
set_option Elab.async false
set_option linter.all false
set_option maxRecDepth 100000
namespace L2
open PySem PySem.Spec PyProof.Rows
section
variable {X : Cx} {a b : Expr} {ta tb : TE} {pos : Pos}
def rLtA : R2 := fun x y H Q => rI0 (fun i j => .bl (decide (i < j))) x y H Q ∨ ∃ i j, x = .str i ∧ y = .str j ∧ Q (.bl (decide (i.cps.toList < j.cps.toList))) H
theorem op_ltA : OpR X (compareOp .Lt) rLtA := op_lt.or op_lt_str
def rLeA : R2 := fun x y H Q => rI0 (fun i j => .bl (decide (i ≤ j))) x y H Q ∨ ∃ i j, x = .str i ∧ y = .str j ∧ Q (.bl (!decide (j.cps.toList < i.cps.toList))) H
theorem op_leA : OpR X (compareOp .LtE) rLeA := op_le.or op_le_str
def rGtA : R2 := fun x y H Q => rI0 (fun i j => .bl (decide (j < i))) x y H Q ∨ ∃ i j, x = .str i ∧ y = .str j ∧ Q (.bl (decide (j.cps.toList < i.cps.toList))) H
theorem op_gtA : OpR X (compareOp .Gt) rGtA := op_gt.or op_gt_str
def rGeA : R2 := fun x y H Q => rI0 (fun i j => .bl (decide (j ≤ i))) x y H Q ∨ ∃ i j, x = .str i ∧ y = .str j ∧ Q (.bl (!decide (i.cps.toList < j.cps.toList))) H
theorem op_geA : OpR X (compareOp .GtE) rGeA := op_ge.or op_ge_str
def rIsA : R2 := fun x y H Q => (y = .non ∧ Q (.bl (decide (x = .non))) H) ∨ ∃ i j, x = .bl i ∧ y = .bl j ∧ Q (.bl (i == j)) H
theorem op_isA : OpR X (compareOp .Is) rIsA := op_isN.or op_is_bl
theorem comp_free (X : Cx) (scope : Scope) (h : (scope.names.all fun y => y.2 != .free || (X.env.kindOf y.1 == some .cell || X.env.kindOf y.1 == some .free)) = true) : ∀ y ∈ scope.names, y.2 = .free → X.env.kindOf y.1 = some .cell ∨ X.env.kindOf y.1 = some .free := by
  intro y hy e
  have := List.all_eq_true.mp h y hy
  rw [e] at this
  simpa using this
theorem comp_ix (X : Cx) (N' : List Str) (ix : List (Option Nat)) (scope : Scope) (h : ((List.range ix.length).all fun i => match ix[i]?, N'[i]? with
    | some (some j), some x => decide (X.N[j]? = some x) && decide (scope.names.lookup x = some .free)
    | _, _ => true) = true) : ∀ (i j : Nat) (x : Str), ix[i]? = some (some j) → N'[i]? = some x → X.N[j]? = some x ∧ scope.names.lookup x = some .free := by
  intro i j x h1 h2
  have hi : i < ix.length := (List.getElem?_eq_some_iff.mp h1).1
  have := List.all_eq_true.mp h i (List.mem_range.mpr hi)
  rw [h1, h2] at this
  simpa using this

def instB (t c : String) : Bool := t == c || (t == "bool" && c == "int")
theorem kit_instB (K : PySem.W.Frag) {t c : String} (ht : t = "NoneType" ∨ t = "bool" ∨ t = "int" ∨ t = "str" ∨ t = "list" ∨ t = "tuple" ∨ t = "dict") (hc : c = "str" ∨ c = "int" ∨ c = "bool" ∨ c = "tuple" ∨ c = "list") :
    PySem.W.kitOne K (.type t) (.type c) = some (instB t c) := by
  rcases ht with rfl | rfl | rfl | rfl | rfl | rfl | rfl <;> rcases hc with rfl | rfl | rfl | rfl | rfl <;> rfl
theorem hu150 {A : Around} {k : Nat} (hr : Room k A) : A.units + 150 < cLine := by
  have := hr.un
  omega
def notStar : Expr → Bool
  | .Starred _ _ => false
  | _ => true
theorem star_cons {e : Expr} {es : List Expr} {env : Env} (h : notStar e = true) : starEach (e :: es) env = (false, eval e env) :: starEach es env := by
  cases e <;> first | rfl | cases h
theorem pa_c {e : Expr} {es : List Expr} {te : TE} {t : TA} (ha : PE X e te) (hr : PA X es t) (h : notStar e = true := by rfl) : PA X (e :: es) (tCons te t) := pa_cons ha hr (star_cons h)
end
structure NmOk (sc : Scope) (x : Str) (k : NameKind) : Prop where
  lk : sc.names.lookup x = some k
  db : (x == ("__debug__" : Str)) = false
  cd : (x == ("__classdict__" : Str)) = false
  nn : x ≠ "__name__"
def VisK (k : NameKind) : Bool := match k with | .local => true | .cell => true | .free => true | _ => false
section
variable {X : Cx} {x : Str} {p pos : Pos} {e : Expr} {es : List Expr} {t : TA} {k : NameKind}
theorem pvk (i : Nat) (q : NmOk X.env.scope x k) (hN : X.N[i]? = some x := by rfl) (hk : VisK k = true := by rfl) : PE X (.Name x pos) (tVar i) :=
  pe_var hN (by cases k <;> first | exact .inl q.lk | exact .inr (.inl q.lk) | exact .inr (.inr q.lk) | exact absurd hk (by decide)) q.db q.cd
theorem NmOk.own {scope : Scope} {cl : List (Str × Addr)} {C : Addr} {s₀ : Shared} {H₀ : Hp} {fp : List Addr} {N' : List Str} (q : NmOk scope x .local) : NmOk (X.comp scope cl C s₀ H₀ fp N').env.scope x .local :=
  ⟨lookup_relabel_local q.lk, q.db, q.cd, q.nn⟩
theorem pvf (i : Nat) {scope : Scope} {cl : List (Str × Addr)} {C : Addr} {s₀ : Shared} {H₀ : Hp} {fp : List Addr} {N' : List Str} (q : NmOk scope x .free) (hN : N'[i]? = some x := by rfl) : PE (X.comp scope cl C s₀ H₀ fp N') (.Name x pos) (tVar i) :=
  pe_var (X := X.comp scope cl C s₀ H₀ fp N') hN (by
    rcases relabel_lookup_free (env := X.env) q.lk with h | h
    · exact .inr (.inl h)
    · exact .inr (.inr h)) q.db q.cd
theorem pgo {i : Nat} {scope : Scope} {cl : List (Str × Addr)} {C : Addr} {s₀ : Shared} {H₀ : Hp} {fp : List Addr} {N' : List Str} (q : NmOk scope x .local) (hd : N'.Nodup) (hN : N'[i]? = some x := by rfl) : PG (X.comp scope cl C s₀ H₀ fp N') (.Name x pos) (gName i) :=
  pg_name (X := X.comp scope cl C s₀ H₀ fp N') hd hN (.inl (lookup_relabel_local q.lk)) (.inr (lookup_relabel_local q.lk))
section
variable {CX : CXT} {n : Nat} {f : Addr} {fd : FuncData} {ps : List Str} {sp : Sp} {dvs : List V} {ds : List Value} {E : XK} {id T : String} {r : List V → Hp → VK → Prop}
theorem pe_callk (F : FnOk X.prog X.w X.K X.mg X.base CX n f fd ps sp) (hr : Room n X.A) (q : NmOk X.env.scope x .globalImplicit) (hm : X.mg x = some (.ref f)) (hk : PySem.W.keepIn X.K (.ref f) = true) (hb : Binds X.K fd ps ds) (hd : Vals dvs ds) (hx : Passes CX X E)
    (ha : PA X (e :: es) t) (he : notStar e = true := by rfl) (hpl : (backTo pos (starEach es X.env)).any (·.1) = false := by rfl) :
    PE X (.Call (.Name x p) (e :: es) [] pos) (tCall sp dvs E t) := pe_call F hr q.lk hm hk hb hd hx ha q.db (star_cons he) hpl
theorem pe_callBk (hc : CallR X (.builtin id) r) (q : NmOk X.env.scope x .globalImplicit) (hm : X.mg x = none) (hv : bootBuiltins x = some (.builtin id)) (ha : PA X (e :: es) t)
    (he : notStar e = true := by rfl) (hpl : (backTo pos (starEach es X.env)).any (·.1) = false := by rfl) : PE X (.Call (.Name x p) (e :: es) [] pos) (tCB r t) := pe_callB hc q.lk hm hv ha q.nn q.db (star_cons he) hpl
theorem pe_callTyk (hc : CallR X (.type T) r) (q : NmOk X.env.scope x .globalImplicit) (hm : X.mg x = none) (hv : bootBuiltins x = some (.type T)) (ha : PA X (e :: es) t)
    (he : notStar e = true := by rfl) (hpl : (backTo pos (starEach es X.env)).any (·.1) = false := by rfl) : PE X (.Call (.Name x p) (e :: es) [] pos) (tCB r t) := pe_callTy hc q.lk hm hv ha q.nn q.db (star_cons he) hpl
theorem pe_bltnk {v : V} {u : Value} (q : NmOk X.env.scope x .globalImplicit) (hm : X.mg x = none) (hv : bootBuiltins x = some u) (r : RelV v u) : PE X (.Name x pos) (tC v) := pe_bltn q.lk hm hv r q.nn q.db
theorem pe_globk {v : V} {u : Value} (q : NmOk X.env.scope x .globalImplicit) (hm : X.mg x = some u) (r : RelV v u) : PE X (.Name x pos) (tC v) := pe_glob q.lk hm r q.db
end
end
def notComp : Expr → Bool
  | .ListComp _ _ _ _ => false
  | .SetComp _ _ _ _ => false
  | .DictComp _ _ _ _ _ => false
  | _ => true
theorem swaps_no {value : Expr} {tgt : Option Expr} {l : Nat} {env : Env} (h : notComp value = true) : swapsWith value tgt l env = pure false := by
  cases value <;> first | rfl | cases h
section
variable {X : Cx}
theorem ps_setk {i : Nat} {x : Str} {e : Expr} {te : TE} {pos pos' : Pos} (hN : X.N.Nodup) (hi : X.N[i]? = some x) (hx : Loc X.env.scope x) (he : PE X e te) (hs : notComp e = true := by rfl) (hf : X.fn x = true := by rfl) :
    PS X (.Assign [.Name x pos'] e pos) (tAsg te (gName i)) := ps_set hN hi hx he (swaps_no hs) (.inl hf)
theorem ps_exprk {e : Expr} {te : TE} {pos : Pos} (he : PE X e te) (hs : notComp e = true := by rfl) : PS X (.Expr e pos) (tDrop te) := ps_expr he (swaps_no hs)
end
end L2
set_option Elab.async false
set_option linter.all false
set_option maxRecDepth 100000
namespace L2
open PySem PySem.Spec PyProof.Rows
section
variable {D : Ends} {σ : St} {H : Hp} {Q : VK} {B : Bool → Hp → Prop} {te ta tb tc : TE} {t u : TS} {g : TG} {tt uu : TT} {tr : TA} {r r' : R2} {K : PySem.W.Frag}
def Kept0 (ix : List (Option Nat)) (σ τ : St) : Prop := τ.length = ix.length ∧ ∀ (k : Nat) v, (tau ix σ)[k]? = some (some v) → τ[k]? = some (some v)
variable {ix : List (Option Nat)}
end
theorem upd_new {H : Hp} {b p : Addr} {o u : HO} (e : H b = some u) (hp : H p = none) : upd H p o b = some u := by rw [upd_ne (ne_of_none e hp)]; exact e
theorem same_new {H : Hp} {p : Addr} (h : H p = none) (o : HO) : Same H (upd H p o) := fun b u q => by rw [upd_ne (ne_of_none q h)]; exact q
end L2
namespace L2
open PySem PySem.Spec PyProof.Rows
section
variable {κ : Type} [DecidableEq κ]
def valV (kvs : List (κ × V)) (k : κ) : Option V := (kvs.find? fun kv => decide (kv.1 = k)).map (·.2)
theorem valV_pos {p : κ × V} {r : List (κ × V)} {k : κ} (e : p.1 = k) : valV (p :: r) k = some p.2 := by simp [valV, List.find?_cons, e]
theorem valV_neg {p : κ × V} {r : List (κ × V)} {k : κ} (e : ¬ p.1 = k) : valV (p :: r) k = valV r k := by simp [valV, List.find?_cons, e]
theorem RelO.isSome_eq {o : Option V} {u : Option Value} (r : RelO o u) : o.isSome = u.isSome := by
  cases o with
  | none => cases u with
    | none => rfl
    | some _ => exact (show False from r).elim
  | some _ => cases u with
    | none => exact (show False from r).elim
    | some _ => rfl
theorem KV.val {kvs : List (κ × V)} {vs : List (κ × Value)} (r : KV kvs vs) (k : κ) : RelO (valV kvs k) (valueAt vs k) := by
  unfold KV at r
  induction r with
  | nil => exact True.intro
  | @cons p q ps qs h t ih =>
    obtain ⟨h1, h2⟩ := h
    by_cases e : p.1 = k
    · have e' : q.1 = k := h1.symm.trans e
      have b : valueAt (q :: qs) k = some q.2 := by simp [valueAt, List.find?_cons, e']
      rw [valV_pos e, b]; exact h2
    · have e' : ¬ q.1 = k := fun z => e (h1.trans z)
      have b : valueAt (q :: qs) k = valueAt qs k := by simp [valueAt, List.find?_cons, e']
      rw [valV_neg e, b]; exact ih
theorem KV.length {kvs : List (κ × V)} {vs : List (κ × Value)} (r : KV kvs vs) : kvs.length = vs.length := Paired.length r
end
theorem kV_is {P : Program} {w : World} {k : Key} {u : Value} (r : RelV (kV k) u) : (mixKind P w).is k u = true := by
  cases k with
  | inl i => obtain ⟨t, e⟩ := (show ∃ t, u = Value.int i t from r); subst e; exact mixKind_int P w i t
  | inr x => obtain ⟨t, e⟩ := (show ∃ t, u = Value.str x t from r); subst e; exact mixKind_str P w x t
theorem items_are {P : Program} {w : World} : ∀ {ks : List Key} {us : List Value}, Vals (ks.map kV) us → ItemsAre (mixKind P w) ks us
  | [], _, r => by rw [List.map_nil] at r; cases r; exact .nil
  | k :: ks, _, r => by
    rw [List.map_cons] at r
    cases r with
    | cons h t => exact .cons (kV_is h) (items_are t)

abbrev KT (H : Hp) : List (List Key × V) → List (List Key × Addr × Value) → Prop := Paired fun p q => p.1 = q.1 ∧ H q.2.1 = some (.tup (p.1.map kV)) ∧ RelV p.2 q.2.2
theorem KT.val {H : Hp} {kvs : List (List Key × V)} {xs : List (List Key × Addr × Value)} (r : KT H kvs xs) (k : List Key) : RelO (valV kvs k) ((atKey xs k).map (·.2)) := by
  induction r with
  | nil => exact True.intro
  | @cons p q ps qs h t ih =>
    obtain ⟨h1, _, h2⟩ := h
    by_cases e : p.1 = k
    · have e' : q.1 = k := h1.symm.trans e
      have b : atKey (q :: qs) k = some q.2 := by simp [atKey, List.find?_cons, e']
      rw [valV_pos e, b]; exact h2
    · have e' : ¬ q.1 = k := fun z => e (h1.trans z)
      have b : atKey (q :: qs) k = atKey qs k := by simp [atKey, List.find?_cons, e']
      rw [valV_neg e, b]; exact ih
section
variable {P : Program} {w : World} {H : Hp} {h : Heap} {a : Addr}
theorem rd_of {u : HO} (ok : HOk P w H h) (e : Rd H a u) : ObjOk P w H h a u := e.ok ok
theorem dk_rd {kvs : List (Key × V)} (ok : HOk P w H h) (e : Rd H a (.dK kvs)) : kvs.length ≤ sizeLine ∧ (a == sysModules) = false ∧ ∃ vs, KV kvs vs ∧ h.DictOf (mixKind P w) a vs :=
  show ObjOk P w H h a (.dK kvs) from rd_of ok e
theorem key_of {ks : List Key} (ok : HOk P w H h) (e : H a = some (.tup (ks.map kV))) : (tupleKind (mixKind P w)).is h ks a := by
  obtain ⟨_, its, r, o, h1, h2, n, h3⟩ := (show ObjOk P w H h a (.tup (ks.map kV)) from ok a _ e)
  exact ⟨o, its.toArray, n, h1, h2, h3, by simpa using items_are r⟩
theorem dt_rd {kvs : List (List Key × V)} (ok : HOk P w H h) (e : Rd H a (.dT kvs)) : kvs.length ≤ sizeLine ∧ (a == sysModules) = false ∧
    ∃ xs, KT H kvs xs ∧ h.DictOfH (tupleKind (mixKind P w)) a xs := by
  obtain ⟨z, y, xs, r, o, es, ep, h1, h2, h3, h4, h5⟩ := (show ObjOk P w H h a (.dT kvs) from rd_of ok e)
  refine ⟨z, y, xs, r, o, es, ep, h1, h2, h3, h4, fun x hx => ?_, h5⟩
  have all : ∀ {l : List (List Key × V)} {m : List (List Key × Addr × Value)}, KT H l m → ∀ x ∈ m, (tupleKind (mixKind P w)).is h x.1 x.2.1 := by
    intro l m q
    induction q with
    | nil => intro x hx; exact nomatch hx
    | @cons p q ps qs hq t ih =>
      intro x hx
      rcases List.mem_cons.mp hx with e | hx
      · subst e
        exact key_of ok (by rw [← hq.1]; exact hq.2.1)
      · exact ih x hx
  exact all r x hx
end
def DGet (H : Hp) (a : Addr) (y : V) (r : Option V) : Prop :=
  (∃ kvs k, Rd H a (.dK kvs) ∧ y = kV k ∧ r = valV kvs k) ∨ ∃ kvs k b, Rd H a (.dT kvs) ∧ y = .ref b ∧ H b = some (.tup (k.map kV)) ∧ r = valV kvs k
theorem DGet.k {H : Hp} {a : Addr} {kvs : List (Key × V)} {k : Key} (e : H a = some (.dK kvs)) : DGet H a (kV k) (valV kvs k) := .inl ⟨kvs, k, .inl e, rfl, rfl⟩
section
variable {X : Cx} {pins : List (Addr × Obj)} {σ : St} {H : Hp} {s : Shared} {a : Addr} {y v : V} {u r : Value} {o : Option V} {A : Around} {E : Value → Shared → Prop}
theorem d_getItem {Q : Value → Shared → Prop} (hu : A.units + 1 < cLine) (I : Inv X pins σ H s) (g : DGet H a y (some v)) (ry : RelV y u) (h : ∀ w' s', Inv X pins σ H s' → RelV v w' → Q w' s') :
    wpAny (model X.prog X.w) A (getItem (.ref a) u) Q E s := by
  rcases g with ⟨kvs, k, e, ey, l⟩ | ⟨kvs, k, b, e, ey, eb, l⟩
  · subst ey
    obtain ⟨z, hd, vs, rel, dd⟩ := dk_rd I.hok e
    obtain ⟨w', hw, rw'⟩ := RelO.some_of (v := v) (o := valueAt vs k) (by rw [l]; exact rel.val k)
    exact wpAny_getItem_of (kV_is ry) dd.mapOf hw (h w' _ (I.tok _) rw')
  · subst ey
    cases (show u = Value.ref b from ry)
    obtain ⟨z, hd, xs, rel, dd⟩ := dt_rd I.hok e
    obtain ⟨w', hw, rw'⟩ := RelO.some_of (v := v) (o := (atKey xs k).map (·.2)) (by rw [l]; exact rel.val k)
    obtain ⟨p, hp, hp2⟩ := Option.map_eq_some_iff.mp hw
    refine wpAny_getItem_heap (tupleKind_room_in1 hu) (key_of I.hok eb) dd hp ?_
    rw [hp2]
    exact h w' _ (I.tok _) rw'
theorem d_in {Q : Value → Shared → Prop} (hu : A.units + 1 < cLine) (I : Inv X pins σ H s) (g : DGet H a y o) (ry : RelV y u) (h : ∀ s', Inv X pins σ H s' → Q (.bool o.isSome) s') :
    wpAny (model X.prog X.w) A (compareOp .In u (.ref a)) Q E s := by
  rcases g with ⟨kvs, k, e, ey, l⟩ | ⟨kvs, k, b, e, ey, eb, l⟩
  · subst ey
    obtain ⟨z, hd, vs, rel, dd⟩ := dk_rd I.hok e
    refine wpAny_in_of (kV_is ry) hd dd.mapOf ?_
    rw [← (rel.val k).isSome_eq, ← l]
    exact h _ (I.tok _)
  · subst ey
    cases (show u = Value.ref b from ry)
    obtain ⟨z, hd, xs, rel, dd⟩ := dt_rd I.hok e
    refine wpAny_in_heap (tupleKind_room_in1 hu) (key_of I.hok eb) hd dd ?_
    have q := (rel.val k).isSome_eq
    rw [Option.isSome_map] at q
    rw [← q, ← l]
    exact h _ (I.tok _)
theorem d_notIn {Q : Value → Shared → Prop} (hu : A.units + 1 < cLine) (I : Inv X pins σ H s) (g : DGet H a y o) (ry : RelV y u) (h : ∀ s', Inv X pins σ H s' → Q (.bool (!o.isSome)) s') :
    wpAny (model X.prog X.w) A (compareOp .NotIn u (.ref a)) Q E s := by
  rcases g with ⟨kvs, k, e, ey, l⟩ | ⟨kvs, k, b, e, ey, eb, l⟩
  · subst ey
    obtain ⟨z, hd, vs, rel, dd⟩ := dk_rd I.hok e
    refine wpAny_notIn_of (kV_is ry) hd dd.mapOf ?_
    rw [← (rel.val k).isSome_eq, ← l]
    exact h _ (I.tok _)
  · subst ey
    cases (show u = Value.ref b from ry)
    obtain ⟨z, hd, xs, rel, dd⟩ := dt_rd I.hok e
    refine wpAny_notIn_heap (tupleKind_room_in1 hu) (key_of I.hok eb) hd dd ?_
    have q := (rel.val k).isSome_eq
    rw [Option.isSome_map] at q
    rw [← q, ← l]
    exact h _ (I.tok _)
end
section
variable {X : Cx} {pins : List (Addr × Obj)} {σ : St} {H : Hp} {s : Shared} {a : Addr} {kvs : List (Key × V)} {k : Key} {u : Value} {A : Around} {E : Value → Shared → Prop}
theorem d_len {Q : Value → Shared → Prop} (I : Inv X pins σ H s) (e : Rd H a (.dK kvs)) (h : ∀ t s', Inv X pins σ H s' → Q (.int kvs.length t) s') : wpAny (model X.prog X.w) A (call (.builtin "len") [.ref a]) Q E s := by
  obtain ⟨z, hd, vs, rel, dd⟩ := dk_rd I.hok e
  refine call_len_dict hd dd (by rw [← rel.length]; rw [sizeLine_eq] at z; omega) ?_
  rw [← rel.length]
  exact h _ _ (I.tok _)
end
theorem dict_typeIs {X : Cx} {pins : List (Addr × Obj)} {σ : St} {H : Hp} {s : Shared} {a : Addr} {y : V} {o : Option V} (I : Inv X pins σ H s) (g : DGet H a y o) : s.TypeIs (.ref a) "dict" := by
  rcases g with ⟨kvs, k, e, _, _⟩ | ⟨kvs, k, b, e, _, _, _⟩
  · obtain ⟨_, _, vs, _, dd⟩ := dk_rd I.hok e
    exact dd.typeIs
  · obtain ⟨_, _, xs, _, dd⟩ := dt_rd I.hok e
    exact dd.typeIs
end L2
namespace L2
open PySem PySem.Spec PyProof.Rows
section
variable {X : Cx}
theorem call_lenD : CallR X (.builtin "len") (fun xs H Q => ∃ a kvs, xs = [V.ref a] ∧ H a = some (.dK kvs) ∧ Q (.int kvs.length) H) := by
  intro pins s σ H xs us Q I r h
  obtain ⟨a, kvs, rfl, ha, q⟩ := h
  obtain ⟨u, rfl, ru⟩ := vals1 r
  cases ru
  exact d_len I (.inl ha) fun t s' I' => ⟨.int kvs.length, H, I', ⟨t, rfl⟩, q⟩
end
end L2
set_option Elab.async false
set_option linter.all false
set_option maxRecDepth 100000
namespace L2
open PySem PySem.Spec PyProof.Rows
section
open PySem.SeqAt
variable {X : Cx} {pins : List (Addr × Obj)} {σ : St} {H : Hp} {s : Shared}
theorem kitAny_of (K : PySem.W.Frag) {t : String} (ht : t = "NoneType" ∨ t = "bool" ∨ t = "int" ∨ t = "str" ∨ t = "list" ∨ t = "tuple" ∨ t = "dict") : ∀ {cs : List String}, (∀ c ∈ cs, c = "str" ∨ c = "int" ∨ c = "bool" ∨ c = "tuple" ∨ c = "list") →
    PySem.W.kitAny K (.type t) (cs.map Value.type) = some (cs.any (instB t))
  | [], _ => rfl
  | c :: r, h => by
    have e := kit_instB K ht (h c List.mem_cons_self)
    have ih := kitAny_of K ht (cs := r) fun c' hc => h c' (List.mem_cons_of_mem _ hc)
    rw [List.map_cons, List.any_cons]
    unfold PySem.W.kitAny
    rw [e]
    cases instB t c with
    | true => rfl
    | false => simpa using ih
theorem vals_ty {cs : List String} : ∀ {us : List Value}, Vals (cs.map V.ty) us → us = cs.map Value.type := by
  induction cs with
  | nil => intro us r; cases r; rfl
  | cons b bs ih => intro us r; cases r with | cons r1 r2 => rw [ih r2, show _ = Value.type b from r1]; rfl
end
theorem hu151 {A : Around} {k : Nat} (hr : Room k A) : A.units + 151 < cLine := by
  have := hr.un
  omega
section
variable {X : Cx}
theorem op_isnot_bl : OpR X (compareOp .IsNot) (fun x y H Q => ∃ i j, x = .bl i ∧ y = .bl j ∧ Q (.bl (i != j)) H) := by
  intro pins s σ H x y v u Q I rx ry h
  obtain ⟨i, j, rfl, rfl, q⟩ := h
  cases rx
  cases ry
  exact isnot_bool ⟨.bl _, H, I, rfl, q⟩
def rIsNotA : R2 := fun x y H Q => (y = .non ∧ Q (.bl (!decide (x = .non))) H) ∨ ∃ i j, x = .bl i ∧ y = .bl j ∧ Q (.bl (i != j)) H
theorem op_isNotA : OpR X (compareOp .IsNot) rIsNotA := op_notN.or op_isnot_bl
end
end L2
set_option Elab.async false
set_option linter.all false
set_option maxRecDepth 100000
namespace L2
open PySem PySem.Spec PyProof.Rows HT
section
variable {prog : Program} {w : World} {A : Around} {E : Value → Shared → Prop} {s : Shared}
theorem whole_tuple {t sl : Addr} {items : Array Value} {vl vu : Value} {lo hi : Option Int} {Q : Value → Shared → Prop} (ht : IsTup s.heap t items) (hs : s.heap.IsSliceOf sl vl vu .none) (pl : IsPart vl lo) (pu : IsPart vu hi)
    (hw : sIx items.size 0 lo = 0 ∧ sIx items.size items.size hi = items.size) (h : Q (.ref t) s) : wpAny (model prog w) A (getItem (.ref t) (.ref sl)) Q E s := by
  have hTs : s.TypeIs (.ref sl) "slice" := by
    obtain ⟨os, hos, hcs, _⟩ := id hs
    exact ⟨os, hos, hcs⟩
  unfold getItem
  try with_reducible refine wpAny_holding ?_
  first | refine wpAny_bind (wpAny_pure ?_) | skip
  refine wpAny_bind (wpAny_sequenceKey ht.typeIs (by decide) ?_)
  refine wpAny_bind (wpAny_callSpecial?_slot (name := Str.ofString "__getitem__") ht.typeIs PyProof.Rows.slot_tuple_getitem
    (wpAny_call_entry PyProof.Rows.slot_tuple_getitem ht.typeIs entry_tuple_getitem ?_ (args_tuple_getitem _ _)))
  show wpAny _ _ (Builtin.Tuple.tupleItemsOf (.ref t) >>= _) _ _ s
  refine wpAny_bind (tupleItemsOf_ ht ?_)
  refine wpAny_bind (wpAny_typeOf hTs ?_)
  rw [if_pos (by decide)]
  refine wpAny_bind (sliceApplied_gen hs pl pu ?_)
  have yes : (((sIx items.size 0 lo : Nat) : Int) == 0 && (1 : Int) == 1 && (sIx items.size items.size hi - sIx items.size 0 lo) == items.size) = true := by
    rw [hw.1, hw.2]; simp
  show wpAny _ _ (if (((sIx items.size 0 lo : Nat) : Int) == 0 && (1 : Int) == 1 && (sIx items.size items.size hi - sIx items.size 0 lo) == items.size) = true then _ else _) _ _ s
  rw [if_pos yes]
  refine wpAny_bind (m := Builtin.Tuple.tupleIsExact _) (wpAny_bind (wpAny_typeOf ht.typeIs (wpAny_pure ?_)))
  show wpAny _ _ (if (Value.type "tuple" == Value.type "tuple") = true then _ else _) _ _ s
  rw [if_pos (by decide)]
  first
    | exact wpAny_bind (wpAny_pure (wpAny_pure ⟨_, rfl, wpAny_pure h⟩))
    | exact wpAny_bind (wpAny_rule (wpAny_pure ⟨_, rfl, wpAny_pure h⟩))
end
end L2
set_option Elab.async false
set_option linter.all false
set_option maxRecDepth 100000
set_option Elab.async false
set_option linter.all false
set_option maxRecDepth 100000
set_option Elab.async false
set_option linter.all false
set_option maxRecDepth 100000
namespace L2
open PySem PySem.Spec PyProof.Rows
section
variable {X : Cx} {pins : List (Addr × Obj)} {σ : St} {H : Hp} {s : Shared}
theorem Inv.turnedT {t' : Nat} {ch : List Addr} {p : Addr} {xs : List V} {its : List Value} {h' : Heap} (I : Inv X pins σ H s) (k : ∀ b o, b ∉ ch → s.heap.get? b = some o → h'.get? b = some o) (hf : ∀ b ∈ ch, FpOk X pins H b)
    (hp : s.heap.objs.size ≤ p) (hx : Vals xs its) (hz : xs.length ≤ sizeLine) (ht : IsTup h' p its.toArray) : Inv X pins σ (upd H p (.tup xs)) { s with heap := h', toks := t' } := by
  have hn : H p = none := I.hok.fresh hp
  have nch : ∀ b u, H b = some u → b ∉ ch := fun b u e z => by rw [(hf b z).1] at e; cases e
  refine I.call (g' := s.gens) (d' := s.drawn) (ch := ch) ⟨fun b o e _ _ hb => k b o hb e, fun b o e _ _ hb => ⟨o.slots, k b o hb e⟩, fun b o e n hb => ?_, fun b o e hb => ⟨o, k b o hb e⟩, fun b ys q => by rw [upd_ne (ne_of_none q hn)]; exact q, fun b u ys q => by rw [upd_ne (ne_of_none q hn)]; exact q, fun b ps q => ⟨#[], by rw [upd_ne (ne_of_none q hn), q]; simp⟩⟩ (fun b u e => ?_) I.bare fun b hb => ⟨(hf b hb).2.2.2.1, (hf b hb).2.1, (hf b hb).2.2.2.2.1, (hf b hb).2.2.2.2.2⟩
  · rw [upd_ne (Nat.ne_of_lt (Nat.lt_of_lt_of_le (Heap.lt_size e) hp))]; exact n
  · by_cases hb : b = p
    · subst hb
      rw [upd_same] at e
      cases e
      exact ⟨hz, its, hx, ht⟩
    · rw [upd_ne hb] at e
      refine (I.hok b u e).stay (fun c v hc q => k c v ?_ q) (fun c q => ?_) fun c ys q => ?_
      · rcases hc with z | z
        · rw [z]; exact nch b u e
        · exact nch c _ z
      · rw [upd_ne (ne_of_none q hn)]; exact q
      · rw [upd_ne (ne_of_none q hn)]; exact q
theorem Inv.turnedL {t' : Nat} {ch : List Addr} {h' : Heap} (I : Inv X pins σ H s) (k : ∀ b o, b ∉ ch → s.heap.get? b = some o → h'.get? b = some o) (hf : ∀ b ∈ ch, FpOk X pins H b) : Inv X pins σ H { s with heap := h', toks := t' } := by
  have nch : ∀ b u, H b = some u → b ∉ ch := fun b u e z => by rw [(hf b z).1] at e; cases e
  refine I.call (g' := s.gens) (d' := s.drawn) (ch := ch) ⟨fun b o e _ _ hb => k b o hb e, fun b o e _ _ hb => ⟨o.slots, k b o hb e⟩, fun b o e n hb => n, fun b o e hb => ⟨o, k b o hb e⟩, fun b ys q => q, fun b u ys q => q, fun b ps q => ⟨#[], by rw [q]; simp⟩⟩ (fun b u e => ?_) I.bare fun b hb => ⟨(hf b hb).2.2.2.1, (hf b hb).2.1, (hf b hb).2.2.2.2.1, (hf b hb).2.2.2.2.2⟩
  refine (I.hok b u e).stay (fun c v hc q => k c v ?_ q) (fun c q => q) fun c ys q => q
  rcases hc with z | z
  · rw [z]; exact nch b u e
  · exact nch c _ z
end
end L2
set_option Elab.async false
set_option linter.all false
set_option maxRecDepth 100000
namespace L2
open PySem PySem.Spec PyProof.Rows
inductive M where
  | non | bl (b : Bool) | int (i : Int) | str (x : Str) | ty (n : String)
  | tup (xs : List M) | lst (xs : List M) | dct (ks : List Key) (xs : List M) | ref (k : Nat) | scr (ns : List Int)
inductive MO where
  | lst (xs : List M) | dct (kvs : List (Key × M))
abbrev HpM := List MO
abbrev EnvM := List (Option M)
abbrev FE := EnvM → HpM → Option (M × HpM)
abbrev FA := EnvM → HpM → Option (List M × HpM)
abbrev FT := EnvM → HpM → Option (Bool × HpM)
abbrev FF := List M → HpM → Option (M × HpM)
inductive Out where
  | nx (ρ : EnvM) | bk (ρ : EnvM) | ct (ρ : EnvM) | rt (d : M)
abbrev FS := EnvM → HpM → Option (Out × HpM)
abbrev FG := M → EnvM → HpM → Option (EnvM × HpM)

structure Pl where
  a : List Addr
  g : List Addr
def Pl.no (α : Pl) (b : Addr) : Prop := b ∉ α.a ∧ b ∉ α.g
def Pl.add (α : Pl) (b : Addr) : Pl := ⟨α.a ++ [b], α.g⟩
def Pl.hide (α : Pl) (b : Addr) : Pl := ⟨α.a, b :: α.g⟩
def TupAt (K : PySem.W.Frag) (α : Pl) (H : Hp) (a : Addr) (vs : List V) : Prop :=
  (Rd H a (.tup vs) ∧ α.no a) ∨
    ∃ (o : Obj) (its : Array Value) (n : Nat), K.lookup a = some o ∧ o.cls = .type "tuple" ∧ o.data = .seq its n ∧ its.size ≤ sizeLine ∧ Vals vs its.toList
def ScrAt (K : PySem.W.Frag) (α : Pl) (H : Hp) (a : Addr) (vs : List V) : Prop :=
  (Rd H a (.lst vs) ∧ α.no a) ∨
    ∃ (o : Obj) (its : Array Value) (n : Nat), K.lookup a = some o ∧ o.cls = .type "list" ∧ o.dict = none ∧ o.data = .seq its n ∧ its.size ≤ sizeLine ∧ Vals vs its.toList
mutual
def RepA (K : PySem.W.Frag) (α : Pl) (H : Hp) : M → V → Prop
  | .non, v => v = .non
  | .bl b, v => v = .bl b
  | .int i, v => v = .int i
  | .str x, v => v = .str x
  | .ty n, v => v = .ty n
  | .tup xs, v => ∃ a vs, v = .ref a ∧ TupAt K α H a vs ∧ RepAs K α H xs vs
  | .scr ns, v => ∃ a, v = .ref a ∧ ScrAt K α H a (ns.map V.int)
  | .lst xs, v => ∃ a vs, v = .ref a ∧ α.no a ∧ H a = some (.lst vs) ∧ RepAs K α H xs vs
  | .dct ks xs, v => ∃ a ws, v = .ref a ∧ α.no a ∧ H a = some (.dK ws) ∧ ws.map (·.1) = ks ∧ RepAs K α H xs (ws.map (·.2))
  | .ref k, v => ∃ a, α.a[k]? = some a ∧ v = .ref a
def RepAs (K : PySem.W.Frag) (α : Pl) (H : Hp) : List M → List V → Prop
  | [], vs => vs = []
  | x :: xs, vs => ∃ v r, vs = v :: r ∧ RepA K α H x v ∧ RepAs K α H xs r
end
def RepO (K : PySem.W.Frag) (α : Pl) (H : Hp) : MO → Addr → Prop
  | .lst xs, a => ∃ vs, H a = some (.lst vs) ∧ RepAs K α H xs vs
  | .dct kvs, a => ∃ ws, H a = some (.dK ws) ∧ ws.map (·.1) = kvs.map (·.1) ∧ RepAs K α H (kvs.map (·.2)) (ws.map (·.2))
structure Rl (K : PySem.W.Frag) (α : Pl) (h : HpM) (H : Hp) : Prop where
  len : α.a.length = h.length
  nd : α.a.Nodup
  ap : ∀ b ∈ α.a, b ∉ α.g
  hid : ∀ b ∈ α.g, ∃ o, H b = some o
  obj : ∀ (k : Nat) (a : Addr) (o : MO), α.a[k]? = some a → h[k]? = some o → RepO K α H o a
structure Ev (α α' : Pl) (H H' : Hp) : Prop where
  pre : α'.g = α.g ∧ ∃ β, α'.a = α.a ++ β ∧ ∀ b ∈ β, H b = none
  keep : ∀ b o, H b = some o → b ∉ α.a → H' b = some o
  dom : ∀ b, H' b = none → H b = none
def REnv (K : PySem.W.Frag) (α : Pl) (H : Hp) (ρ : EnvM) (σ : St) : Prop :=
  ρ.length = σ.length ∧ ∀ (i : Nat) (m : M), ρ[i]? = some (some m) → ∃ v, σ[i]? = some (some v) ∧ RepA K α H m v

theorem Ev.refl {α : Pl} {H : Hp} : Ev α α H H := ⟨⟨rfl, [], by simp, by simp⟩, fun _ _ e _ => e, fun _ e => e⟩
theorem Ev.notA {α α' : Pl} {H H' : Hp} (e : Ev α α' H H') {b : Addr} {o : HO} (hb : H b = some o) (n : b ∉ α.a) : b ∉ α'.a := by
  obtain ⟨_, β, e1, f⟩ := e.pre
  intro h
  rw [e1] at h
  rcases List.mem_append.mp h with h | h
  · exact n h
  · rw [f b h] at hb; cases hb
theorem Ev.notMem {α α' : Pl} {H H' : Hp} (e : Ev α α' H H') {b : Addr} {o : HO} (hb : H b = some o) (n : α.no b) : α'.no b := ⟨e.notA hb n.1, by rw [e.pre.1]; exact n.2⟩
theorem Ev.trans {α α1 α2 : Pl} {H H1 H2 : Hp} (e : Ev α α1 H H1) (f : Ev α1 α2 H1 H2) : Ev α α2 H H2 := by
  refine ⟨?_, fun b o hb n => f.keep b o (e.keep b o hb n) (e.notA hb n), fun b hb => e.dom b (f.dom b hb)⟩
  obtain ⟨g1, β, e1, f1⟩ := e.pre
  obtain ⟨g2, γ, e2, f2⟩ := f.pre
  refine ⟨g2.trans g1, β ++ γ, by rw [e2, e1, List.append_assoc], fun b hb => ?_⟩
  rcases List.mem_append.mp hb with hb | hb
  · exact f1 b hb
  · exact e.dom b (f2 b hb)
theorem Ev.same {α : Pl} {H H' : Hp} (s : Same H H') : Ev α α H H' := ⟨⟨rfl, [], by simp, by simp⟩, fun b o e _ => s b o e, fun b e => by
  cases h : H b with
  | none => rfl
  | some o => rw [s b o h] at e; cases e⟩
theorem Ev.rd {α α' : Pl} {H H' : Hp} (e : Ev α α' H H') {a : Addr} {u : HO} (r : Rd H a u) (n : α.no a) : Rd H' a u ∧ α'.no a := by
  rcases r with r | ⟨o, r⟩
  · exact ⟨.inl (e.keep _ _ r n.1), e.notMem r n⟩
  · exact ⟨.inr ⟨o, e.keep _ _ r n.1⟩, e.notMem r n⟩
theorem Ev.ix {α α' : Pl} {H H' : Hp} (e : Ev α α' H H') {k : Nat} {a : Addr} (h : α.a[k]? = some a) : α'.a[k]? = some a := by
  obtain ⟨_, β, e1, _⟩ := e.pre
  have hk : k < α.a.length := (List.getElem?_eq_some_iff.mp h).1
  rw [e1, List.getElem?_append_left hk]; exact h
theorem TupAt.ev {K : PySem.W.Frag} {α α' : Pl} {H H' : Hp} (e : Ev α α' H H') {a : Addr} {vs : List V} (t : TupAt K α H a vs) : TupAt K α' H' a vs := by
  rcases t with ⟨r, n⟩ | t
  · exact .inl (e.rd r n)
  · exact .inr t
theorem TupAt.sq {K : PySem.W.Frag} {α : Pl} {H : Hp} {a : Addr} {vs : List V} (t : TupAt K α H a vs) : SqT K H a vs := by
  rcases t with ⟨r, _⟩ | t
  · exact .inl r
  · exact .inr t
theorem ScrAt.ev {K : PySem.W.Frag} {α α' : Pl} {H H' : Hp} (e : Ev α α' H H') {a : Addr} {vs : List V} (t : ScrAt K α H a vs) : ScrAt K α' H' a vs := by
  rcases t with ⟨r, n⟩ | t
  · exact .inl (e.rd r n)
  · exact .inr t
theorem ScrAt.sq {K : PySem.W.Frag} {α : Pl} {H : Hp} {a : Addr} {vs : List V} (t : ScrAt K α H a vs) : SqL K H a vs := by
  rcases t with ⟨r, _⟩ | t
  · exact .inl r
  · exact .inr t
mutual
theorem RepA.ev {K : PySem.W.Frag} {α α' : Pl} {H H' : Hp} (e : Ev α α' H H') : ∀ {m : M} {v : V}, RepA K α H m v → RepA K α' H' m v
  | .non, _, h => h
  | .bl _, _, h => h
  | .int _, _, h => h
  | .str _, _, h => h
  | .ty _, _, h => h
  | .tup xs, _, ⟨a, vs, e1, t, r⟩ => ⟨a, vs, e1, t.ev e, RepAs.ev e r⟩
  | .scr ns, _, ⟨a, e1, t⟩ => ⟨a, e1, t.ev e⟩
  | .lst xs, _, ⟨a, vs, e1, n, t, r⟩ => ⟨a, vs, e1, e.notMem t n, e.keep _ _ t n.1, RepAs.ev e r⟩
  | .dct ks xs, _, ⟨a, ws, e1, n, t, ek, r⟩ => ⟨a, ws, e1, e.notMem t n, e.keep _ _ t n.1, ek, RepAs.ev e r⟩
  | .ref k, _, ⟨a, h, e1⟩ => ⟨a, e.ix h, e1⟩
theorem RepAs.ev {K : PySem.W.Frag} {α α' : Pl} {H H' : Hp} (e : Ev α α' H H') : ∀ {xs : List M} {vs : List V}, RepAs K α H xs vs → RepAs K α' H' xs vs
  | [], _, h => h
  | x :: xs, _, ⟨v, r, e1, h1, h2⟩ => ⟨v, r, e1, RepA.ev e h1, RepAs.ev e h2⟩
end
theorem REnv.ev {K : PySem.W.Frag} {α α' : Pl} {H H' : Hp} (e : Ev α α' H H') {ρ : EnvM} {σ : St} (r : REnv K α H ρ σ) : REnv K α' H' ρ σ :=
  ⟨r.1, fun i m h => by obtain ⟨v, h1, h2⟩ := r.2 i m h; exact ⟨v, h1, h2.ev e⟩⟩
theorem RepAs.length {K : PySem.W.Frag} {α : Pl} {H : Hp} : ∀ {xs : List M} {vs : List V}, RepAs K α H xs vs → xs.length = vs.length
  | [], _, h => by cases (show _ = [] from h); rfl
  | x :: xs, _, ⟨v, r, e1, _, h2⟩ => by subst e1; simp [RepAs.length h2]
theorem RepAs.get {K : PySem.W.Frag} {α : Pl} {H : Hp} : ∀ {xs : List M} {vs : List V} {i : Nat} {m : M}, RepAs K α H xs vs → xs[i]? = some m → ∃ v, vs[i]? = some v ∧ RepA K α H m v
  | [], _, _, _, _, h => by simp at h
  | x :: xs, _, 0, m, ⟨v, r, e1, h1, h2⟩, h => by subst e1; simp at h; subst h; exact ⟨v, rfl, h1⟩
  | x :: xs, _, i + 1, m, ⟨v, r, e1, h1, h2⟩, h => by subst e1; simpa using RepAs.get (i := i) h2 (by simpa using h)
theorem RepAs.app {K : PySem.W.Frag} {α : Pl} {H : Hp} : ∀ {xs : List M} {vs : List V} {ys : List M} {ws : List V}, RepAs K α H xs vs → RepAs K α H ys ws → RepAs K α H (xs ++ ys) (vs ++ ws)
  | [], _, _, _, h, h' => by cases (show _ = [] from h); exact h'
  | x :: xs, _, _, _, ⟨v, r, e1, h1, h2⟩, h' => by subst e1; exact ⟨v, _, rfl, h1, RepAs.app h2 h'⟩
theorem RepAs.drop {K : PySem.W.Frag} {α : Pl} {H : Hp} : ∀ {xs : List M} {vs : List V} (n : Nat), RepAs K α H xs vs → RepAs K α H (xs.drop n) (vs.drop n)
  | _, _, 0, h => h
  | [], _, _ + 1, h => by cases (show _ = [] from h); exact rfl
  | x :: xs, _, n + 1, ⟨v, r, e1, h1, h2⟩ => by subst e1; exact RepAs.drop n h2
theorem RepAs.take {K : PySem.W.Frag} {α : Pl} {H : Hp} : ∀ {xs : List M} {vs : List V} (n : Nat), RepAs K α H xs vs → RepAs K α H (xs.take n) (vs.take n)
  | _, _, 0, h => by simp only [List.take_zero]; exact rfl
  | [], _, _ + 1, h => by cases (show _ = [] from h); exact rfl
  | x :: xs, _, n + 1, ⟨v, r, e1, h1, h2⟩ => by subst e1; exact ⟨v, _, rfl, h1, RepAs.take n h2⟩
theorem RepAs.set {K : PySem.W.Frag} {α : Pl} {H : Hp} {m : M} {v : V} (hm : RepA K α H m v) : ∀ {xs : List M} {vs : List V} (n : Nat), RepAs K α H xs vs → RepAs K α H (xs.set n m) (vs.set n v)
  | [], _, n, h => by cases (show _ = [] from h); exact rfl
  | x :: xs, _, 0, ⟨v, r, e1, h1, h2⟩ => by subst e1; exact ⟨_, _, rfl, hm, h2⟩
  | x :: xs, _, n + 1, ⟨v, r, e1, h1, h2⟩ => by subst e1; exact ⟨v, _, rfl, h1, RepAs.set hm n h2⟩
theorem RepAs.snoc {K : PySem.W.Frag} {α : Pl} {H : Hp} {xs : List M} {vs : List V} {m : M} {v : V} (h : RepAs K α H xs vs) (hm : RepA K α H m v) : RepAs K α H (xs ++ [m]) (vs ++ [v]) := h.app ⟨v, [], rfl, hm, rfl⟩
theorem RepAs.at {K : PySem.W.Frag} {α : Pl} {H : Hp} {xs : List M} {vs : List V} {i : Int} {m : M} (h : RepAs K α H xs vs) (e : atI xs i = some m) : ∃ v, atI vs i = some v ∧ RepA K α H m v := by
  unfold atI at e ⊢
  rw [← h.length]
  cases q : ixN xs.length i with
  | none => rw [q] at e; cases e
  | some j =>
    rw [q] at e
    exact h.get e
theorem Rl.same {K : PySem.W.Frag} {α : Pl} {h : HpM} {H H' : Hp} (r : Rl K α h H) (s : Same H H') : Rl K α h H' :=
  ⟨r.len, r.nd, r.ap, fun b hb => by
    obtain ⟨o, e⟩ := r.hid b hb
    exact ⟨o, s b o e⟩, fun k a o hk ho => by
    have e : Ev α α H H' := Ev.same s
    have q := r.obj k a o hk ho
    cases o with
    | lst xs => obtain ⟨vs, h1, h2⟩ := q; exact ⟨vs, s _ _ h1, h2.ev e⟩
    | dct kvs => obtain ⟨ws, h1, h2, h3⟩ := q; exact ⟨ws, s _ _ h1, h2, h3.ev e⟩⟩
theorem Rl.some_at {K : PySem.W.Frag} {α : Pl} {h : HpM} {H : Hp} (r : Rl K α h H) {a : Addr} (ha : a ∈ α.a) : ∃ o, H a = some o := by
  obtain ⟨k, hk⟩ := List.getElem?_of_mem ha
  have hl : k < h.length := by rw [← r.len]; exact (List.getElem?_eq_some_iff.mp hk).1
  have q := r.obj k a h[k] hk (by simp [hl])
  revert q
  cases h[k] with
  | lst xs => rintro ⟨vs, h1, _⟩; exact ⟨_, h1⟩
  | dct kvs => rintro ⟨vs, h1, _⟩; exact ⟨_, h1⟩
theorem Ev.write {K : PySem.W.Frag} {α : Pl} {h : HpM} {H : Hp} (r : Rl K α h H) {a : Addr} (ha : a ∈ α.a) {u : HO} : Ev α α H (upd H a u) :=
  ⟨⟨rfl, [], by simp, by simp⟩, fun b o e n => by
    have hba : b ≠ a := by intro z; subst z; exact n ha
    rw [upd_ne hba]; exact e, fun b e => by
    by_cases hb : b = a
    · subst hb; rw [upd_same] at e; cases e
    · rw [upd_ne hb] at e; exact e⟩
theorem Rl.write {K : PySem.W.Frag} {α : Pl} {h : HpM} {H : Hp} (r : Rl K α h H) {k : Nat} {a : Addr} (ha : α.a[k]? = some a) {u : HO} {o : MO} (ho : RepO K α (upd H a u) o a) : Rl K α (h.set k o) (upd H a u) := by
  have e : Ev α α H (upd H a u) := Ev.write r (List.mem_of_getElem? ha)
  refine ⟨by simp [r.len], r.nd, r.ap, fun b hb => by
    obtain ⟨o, e⟩ := r.hid b hb
    by_cases z : b = a
    · subst z; exact ⟨_, upd_same⟩
    · exact ⟨o, by rw [upd_ne z]; exact e⟩, fun j b o' hj ho' => ?_⟩
  by_cases hjk : j = k
  · subst hjk
    rw [ha] at hj; cases hj
    have hl : j < h.length := by rw [← r.len]; exact (List.getElem?_eq_some_iff.mp ha).1
    rw [List.getElem?_set_self hl] at ho'; cases ho'
    exact ho
  · rw [List.getElem?_set_ne (fun z => hjk z.symm)] at ho'
    have hba : b ≠ a := fun z => by
      subst z
      have hjl := (List.getElem?_eq_some_iff.mp hj)
      have hkl := (List.getElem?_eq_some_iff.mp ha)
      exact hjk ((List.getElem_inj r.nd).mp (hjl.2.trans hkl.2.symm))
    have q := r.obj j b o' hj ho'
    cases o' with
    | lst xs => obtain ⟨vs, h1, h2⟩ := q; exact ⟨vs, by rw [upd_ne hba]; exact h1, h2.ev e⟩
    | dct kvs => obtain ⟨ws, h1, h2, h3⟩ := q; exact ⟨ws, by rw [upd_ne hba]; exact h1, h2, h3.ev e⟩
theorem Ev.alloc {α : Pl} {H : Hp} {p : Addr} (hp : H p = none) {u : HO} : Ev α (α.add p) H (upd H p u) :=
  ⟨⟨rfl, [p], rfl, fun b hb => by rw [List.mem_singleton.mp hb]; exact hp⟩, fun b o e _ => upd_new e hp, fun b e => by
    by_cases hb : b = p
    · subst hb; exact hp
    · rw [upd_ne hb] at e; exact e⟩
theorem Rl.newA {K : PySem.W.Frag} {α : Pl} {h : HpM} {H : Hp} (r : Rl K α h H) {p : Addr} (hp : H p = none) : p ∉ α.a := fun hm => by
  obtain ⟨o, e⟩ := r.some_at hm
  rw [hp] at e; cases e
theorem Rl.new {K : PySem.W.Frag} {α : Pl} {h : HpM} {H : Hp} (r : Rl K α h H) {p : Addr} (hp : H p = none) : α.no p := ⟨r.newA hp, fun hm => by
  obtain ⟨o, e⟩ := r.hid p hm
  rw [hp] at e; cases e⟩
theorem Rl.alloc {K : PySem.W.Frag} {α : Pl} {h : HpM} {H : Hp} (r : Rl K α h H) {p : Addr} (hp : H p = none) {u : HO} {o : MO} (ho : RepO K (α.add p) (upd H p u) o p) : Rl K (α.add p) (h ++ [o]) (upd H p u) := by
  have e : Ev α (α.add p) H (upd H p u) := Ev.alloc hp
  refine ⟨by simp [r.len, Pl.add], ?_, fun b hb => ?_, fun b hb => ?_, fun j b o' hj ho' => ?_⟩
  · show (α.a ++ [p]).Nodup
    rw [List.nodup_append]
    refine ⟨r.nd, by simp, fun x hx y hy => ?_⟩
    rw [List.mem_singleton.mp hy]
    exact fun z => r.newA hp (z ▸ hx)
  · rcases List.mem_append.mp (show b ∈ α.a ++ [p] from hb) with hb | hb
    · exact r.ap b hb
    · rw [List.mem_singleton.mp hb]; exact (r.new hp).2
  · obtain ⟨o, e⟩ := r.hid b hb
    exact ⟨o, upd_new e hp⟩
  · have hj : (α.a ++ [p])[j]? = some b := hj
    by_cases hl : j < α.a.length
    · rw [List.getElem?_append_left hl] at hj
      rw [List.getElem?_append_left (by rw [← r.len]; exact hl)] at ho'
      have q := r.obj j b o' hj ho'
      cases o' with
      | lst xs => obtain ⟨vs, h1, h2⟩ := q; exact ⟨vs, upd_new h1 hp, h2.ev e⟩
      | dct kvs => obtain ⟨ws, h1, h2, h3⟩ := q; exact ⟨ws, upd_new h1 hp, h2, h3.ev e⟩
    · have hj' : j < α.a.length + 1 := by simpa using (List.getElem?_eq_some_iff.mp hj).1
      have ej : j = α.a.length := by omega
      subst ej
      rw [List.getElem?_append_right (Nat.le_refl _)] at hj
      simp at hj
      rw [r.len, List.getElem?_append_right (Nat.le_refl _)] at ho'
      simp at ho'
      subst hj ho'
      exact ho
mutual
theorem RepA.hide {K : PySem.W.Frag} {α : Pl} {H : Hp} {p : Addr} (hp : H p = none) : ∀ {m : M} {v : V}, RepA K α H m v → RepA K (α.hide p) H m v
  | .non, _, h => h
  | .bl _, _, h => h
  | .int _, _, h => h
  | .str _, _, h => h
  | .ty _, _, h => h
  | .tup xs, _, ⟨a, vs, e1, t, r⟩ => ⟨a, vs, e1, t.elim (fun ⟨q, n⟩ => .inl ⟨q, n.1, fun hm => by
      rcases List.mem_cons.mp hm with z | z
      · subst z; rcases q with q | ⟨_, q⟩ <;> (rw [hp] at q; cases q)
      · exact n.2 z⟩) .inr, RepAs.hide hp r⟩
  | .scr ns, _, ⟨a, e1, t⟩ => ⟨a, e1, t.elim (fun ⟨q, n⟩ => .inl ⟨q, n.1, fun hm => by
      rcases List.mem_cons.mp hm with z | z
      · subst z; rcases q with q | ⟨_, q⟩ <;> (rw [hp] at q; cases q)
      · exact n.2 z⟩) .inr⟩
  | .lst xs, _, ⟨a, vs, e1, n, t, r⟩ => ⟨a, vs, e1, ⟨n.1, fun hm => by
      rcases List.mem_cons.mp hm with z | z
      · subst z; rw [hp] at t; cases t
      · exact n.2 z⟩, t, RepAs.hide hp r⟩
  | .dct ks xs, _, ⟨a, ws, e1, n, t, ek, r⟩ => ⟨a, ws, e1, ⟨n.1, fun hm => by
      rcases List.mem_cons.mp hm with z | z
      · subst z; rw [hp] at t; cases t
      · exact n.2 z⟩, t, ek, RepAs.hide hp r⟩
  | .ref k, _, h => h
theorem RepAs.hide {K : PySem.W.Frag} {α : Pl} {H : Hp} {p : Addr} (hp : H p = none) : ∀ {xs : List M} {vs : List V}, RepAs K α H xs vs → RepAs K (α.hide p) H xs vs
  | [], _, h => h
  | x :: xs, _, ⟨v, r, e1, h1, h2⟩ => ⟨v, r, e1, RepA.hide hp h1, RepAs.hide hp h2⟩
end
mutual
theorem RepA.show {K : PySem.W.Frag} {α : Pl} {H : Hp} {p : Addr} : ∀ {m : M} {v : V}, RepA K (α.hide p) H m v → RepA K α H m v
  | .non, _, h => h
  | .bl _, _, h => h
  | .int _, _, h => h
  | .str _, _, h => h
  | .ty _, _, h => h
  | .tup xs, _, ⟨a, vs, e1, t, r⟩ => ⟨a, vs, e1, t.elim (fun ⟨q, n⟩ => .inl ⟨q, n.1, fun hm => n.2 (List.mem_cons_of_mem _ hm)⟩) .inr, RepAs.show r⟩
  | .scr ns, _, ⟨a, e1, t⟩ => ⟨a, e1, t.elim (fun ⟨q, n⟩ => .inl ⟨q, n.1, fun hm => n.2 (List.mem_cons_of_mem _ hm)⟩) .inr⟩
  | .lst xs, _, ⟨a, vs, e1, n, t, r⟩ => ⟨a, vs, e1, ⟨n.1, fun hm => n.2 (List.mem_cons_of_mem _ hm)⟩, t, RepAs.show r⟩
  | .dct ks xs, _, ⟨a, ws, e1, n, t, ek, r⟩ => ⟨a, ws, e1, ⟨n.1, fun hm => n.2 (List.mem_cons_of_mem _ hm)⟩, t, ek, RepAs.show r⟩
  | .ref k, _, h => h
theorem RepAs.show {K : PySem.W.Frag} {α : Pl} {H : Hp} {p : Addr} : ∀ {xs : List M} {vs : List V}, RepAs K (α.hide p) H xs vs → RepAs K α H xs vs
  | [], _, h => h
  | x :: xs, _, ⟨v, r, e1, h1, h2⟩ => ⟨v, r, e1, RepA.show h1, RepAs.show h2⟩
end
mutual
theorem RepA.hw {K : PySem.W.Frag} {α : Pl} {H : Hp} {p : Addr} {u : HO} (hp : p ∈ α.g) : ∀ {m : M} {v : V}, RepA K α H m v → RepA K α (upd H p u) m v
  | .non, _, h => h
  | .bl _, _, h => h
  | .int _, _, h => h
  | .str _, _, h => h
  | .ty _, _, h => h
  | .tup xs, _, ⟨a, vs, e1, t, r⟩ => ⟨a, vs, e1, t.elim (fun ⟨q, n⟩ => .inl ⟨by
      have hn : a ≠ p := by intro z; subst z; exact n.2 hp
      rcases q with q | ⟨o, q⟩
      · exact .inl (by rw [upd_ne hn]; exact q)
      · exact .inr ⟨o, by rw [upd_ne hn]; exact q⟩, n⟩) .inr, RepAs.hw hp r⟩
  | .scr ns, _, ⟨a, e1, t⟩ => ⟨a, e1, t.elim (fun ⟨q, n⟩ => .inl ⟨by
      have hn : a ≠ p := by intro z; subst z; exact n.2 hp
      rcases q with q | ⟨o, q⟩
      · exact .inl (by rw [upd_ne hn]; exact q)
      · exact .inr ⟨o, by rw [upd_ne hn]; exact q⟩, n⟩) .inr⟩
  | .lst xs, _, ⟨a, vs, e1, n, t, r⟩ => ⟨a, vs, e1, n, by
      have hn : a ≠ p := by intro z; subst z; exact n.2 hp
      rw [upd_ne hn]; exact t, RepAs.hw hp r⟩
  | .dct ks xs, _, ⟨a, ws, e1, n, t, ek, r⟩ => ⟨a, ws, e1, n, by
      have hn : a ≠ p := by intro z; subst z; exact n.2 hp
      rw [upd_ne hn]; exact t, ek, RepAs.hw hp r⟩
  | .ref k, _, h => h
theorem RepAs.hw {K : PySem.W.Frag} {α : Pl} {H : Hp} {p : Addr} {u : HO} (hp : p ∈ α.g) : ∀ {xs : List M} {vs : List V}, RepAs K α H xs vs → RepAs K α (upd H p u) xs vs
  | [], _, h => h
  | x :: xs, _, ⟨v, r, e1, h1, h2⟩ => ⟨v, r, e1, RepA.hw hp h1, RepAs.hw hp h2⟩
end
theorem Rl.hw {K : PySem.W.Frag} {α : Pl} {h : HpM} {H : Hp} {p : Addr} {u : HO} (r : Rl K α h H) (hp : p ∈ α.g) : Rl K α h (upd H p u) :=
  ⟨r.len, r.nd, r.ap, fun b hb => by
    by_cases z : b = p
    · subst z; exact ⟨_, upd_same⟩
    · obtain ⟨o, e⟩ := r.hid b hb
      exact ⟨o, by rw [upd_ne z]; exact e⟩, fun k a o hk ho => by
    have hn : a ≠ p := by intro z; subst z; exact r.ap _ (List.mem_of_getElem? hk) hp
    have q := r.obj k a o hk ho
    cases o with
    | lst xs => obtain ⟨vs, h1, h2⟩ := q; exact ⟨vs, by rw [upd_ne hn]; exact h1, h2.hw hp⟩
    | dct kvs => obtain ⟨ws, h1, h2, h3⟩ := q; exact ⟨ws, by rw [upd_ne hn]; exact h1, h2, h3.hw hp⟩⟩
theorem REnv.hw {K : PySem.W.Frag} {α : Pl} {H : Hp} {ρ : EnvM} {σ : St} {p : Addr} {u : HO} (r : REnv K α H ρ σ) (hp : p ∈ α.g) : REnv K α (upd H p u) ρ σ :=
  ⟨r.1, fun i m h => by obtain ⟨v, h1, h2⟩ := r.2 i m h; exact ⟨v, h1, h2.hw hp⟩⟩
theorem REnv.hide {K : PySem.W.Frag} {α : Pl} {H : Hp} {ρ : EnvM} {σ : St} {p : Addr} (r : REnv K α H ρ σ) (hp : H p = none) : REnv K (α.hide p) H ρ σ :=
  ⟨r.1, fun i m h => by obtain ⟨v, h1, h2⟩ := r.2 i m h; exact ⟨v, h1, h2.hide hp⟩⟩
theorem Rl.lay {K : PySem.W.Frag} {α : Pl} {h : HpM} {H : Hp} {p : Addr} {u : HO} (r : Rl K α h H) (hp : H p = none) : Rl K (α.hide p) h (upd H p u) :=
  have s : Same H (upd H p u) := same_new hp u
  ⟨r.len, r.nd, fun b hb hm => by
    rcases List.mem_cons.mp hm with z | z
    · subst z; exact r.newA hp hb
    · exact r.ap b hb z, fun b hb => by
    rcases List.mem_cons.mp hb with z | z
    · subst z; exact ⟨_, upd_same⟩
    · obtain ⟨o, e⟩ := r.hid b z
      exact ⟨o, s b o e⟩, fun k a o hk ho => by
    have q := r.obj k a o hk ho
    cases o with
    | lst xs => obtain ⟨vs, h1, h2⟩ := q; exact ⟨vs, s _ _ h1, (h2.hide hp).ev (.same s)⟩
    | dct kvs => obtain ⟨ws, h1, h2, h3⟩ := q; exact ⟨ws, s _ _ h1, h2, (h3.hide hp).ev (.same s)⟩⟩
theorem Rl.show {K : PySem.W.Frag} {α : Pl} {h : HpM} {H : Hp} {p : Addr} (r : Rl K (α.hide p) h H) : Rl K α h H :=
  ⟨r.len, r.nd, fun b hb hm => r.ap b hb (List.mem_cons_of_mem _ hm), fun b hb => r.hid b (List.mem_cons_of_mem _ hb), fun k a o hk ho => by
    have q := r.obj k a o hk ho
    cases o with
    | lst xs => obtain ⟨vs, h1, h2⟩ := q; exact ⟨vs, h1, h2.show⟩
    | dct kvs => obtain ⟨ws, h1, h2, h3⟩ := q; exact ⟨ws, h1, h2, h3.show⟩⟩

theorem Ev.unhide {α α' : Pl} {H H' : Hp} {p : Addr} (e : Ev (α.hide p) (α'.hide p) H H') : Ev α α' H H' :=
  ⟨⟨(List.cons.inj e.pre.1).2, e.pre.2⟩, e.keep, e.dom⟩
theorem Ev.hw {α α' : Pl} {H H' : Hp} {p : Addr} {u : HO} (e : Ev α α' H H') (hp : H p = none) : Ev α α' H (upd H' p u) :=
  ⟨e.pre, fun b o hb n => by
    have z : b ≠ p := by intro z; subst z; rw [hp] at hb; cases hb
    rw [upd_ne z]; exact e.keep b o hb n, fun b hb => by
    by_cases z : b = p
    · subst z; exact hp
    · rw [upd_ne z] at hb; exact e.dom b hb⟩

def tM (K : PySem.W.Frag) (m : FE) : TE := fun σ H Q => ∃ α ρ h d h', REnv K α H ρ σ ∧ Rl K α h H ∧ m ρ h = some (d, h') ∧ ∀ α' H' v, Ev α α' H H' → Rl K α' h' H' → RepA K α' H' d v → Q v H'
def aM (K : PySem.W.Frag) (m : FA) : TA := fun σ H Q => ∃ α ρ h d h', REnv K α H ρ σ ∧ Rl K α h H ∧ m ρ h = some (d, h') ∧ ∀ α' H' v, Ev α α' H H' → Rl K α' h' H' → RepAs K α' H' d v → Q v H'
def bM (K : PySem.W.Frag) (m : FT) : TT := fun σ H Q => ∃ α ρ h d h', REnv K α H ρ σ ∧ Rl K α h H ∧ m ρ h = some (d, h') ∧ ∀ α' H', Ev α α' H H' → Rl K α' h' H' → Q d H'
def Fin (K : PySem.W.Frag) (D : Ends) (α' : Pl) (H' : Hp) : Out → Prop
  | .nx ρ => ∀ σ, REnv K α' H' ρ σ → D.nx σ H'
  | .bk ρ => ∀ σ, REnv K α' H' ρ σ → D.bk σ H'
  | .ct ρ => ∀ σ, REnv K α' H' ρ σ → D.ct σ H'
  | .rt d => ∀ v, RepA K α' H' d v → D.rt v H'
def sM (K : PySem.W.Frag) (m : FS) : TS := fun D σ H => ∃ α ρ h o h', REnv K α H ρ σ ∧ Rl K α h H ∧ m ρ h = some (o, h') ∧ ∀ α' H', Ev α α' H H' → Rl K α' h' H' → Fin K D α' H' o
def gM (K : PySem.W.Frag) (m : FG) : TG := fun v σ H Q => ∃ α ρ h x ρ' h', REnv K α H ρ σ ∧ Rl K α h H ∧ RepA K α H x v ∧ m x ρ h = some (ρ', h') ∧ ∀ α' H' σ', Ev α α' H H' → Rl K α' h' H' → REnv K α' H' ρ' σ' → Q σ' H'
abbrev FGs := List M → EnvM → HpM → Option (EnvM × HpM)
def gsM (K : PySem.W.Frag) (m : FGs) : TGs := fun v σ H Q => ∃ α ρ h x ρ' h', REnv K α H ρ σ ∧ Rl K α h H ∧ RepAs K α H x v ∧ m x ρ h = some (ρ', h') ∧ ∀ α' H' σ', Ev α α' H H' → Rl K α' h' H' → REnv K α' H' ρ' σ' → Q σ' H'
def spM (K : PySem.W.Frag) (m : FF) : Sp := fun vs H Q _ => ∃ α h ds d h', RepAs K α H ds vs ∧ Rl K α h H ∧ m ds h = some (d, h') ∧ ∀ α' H' v, Ev α α' H H' → Rl K α' h' H' → RepA K α' H' d v → Q v H'
section
variable {X : Cx}
theorem PE.imp {e : Expr} {t t' : TE} (h : PE X e t) (i : ∀ σ H Q, t' σ H Q → t σ H Q) : PE X e t' := fun pins s σ H Q I q => h pins s σ H Q I (i σ H Q q)
theorem PT.imp {e : Expr} {t t' : TT} (h : PT X e t) (i : ∀ σ H Q, t' σ H Q → t σ H Q) : PT X e t' := fun pins s σ H Q I q => h pins s σ H Q I (i σ H Q q)
theorem PW.imp {e : Expr} {t t' : TT} (h : PW X e t) (i : ∀ σ H Q, t' σ H Q → t σ H Q) : PW X e t' := fun wh pins s σ H Q I q => h wh pins s σ H Q I (i σ H Q q)
theorem PA.imp {e : List Expr} {t t' : TA} (h : PA X e t) (i : ∀ σ H Q, t' σ H Q → t σ H Q) : PA X e t' := fun pos pins s σ H Q I q => h pos pins s σ H Q I (i σ H Q q)
theorem PS.imp {e : Stmt} {t t' : TS} (h : PS X e t) (i : ∀ D σ H, t' D σ H → t D σ H) : PS X e t' := fun pins s σ H D I q => h pins s σ H D I (i D σ H q)
theorem PSs.imp {e : List Stmt} {t t' : TS} (h : PSs X e t) (i : ∀ D σ H, t' D σ H → t D σ H) : PSs X e t' := fun pins s σ H D I q => h pins s σ H D I (i D σ H q)
theorem PG.imp {e : Expr} {t t' : TG} (h : PG X e t) (i : ∀ v σ H Q, t' v σ H Q → t v σ H Q) : PG X e t' := fun pins s σ H v u Q I r q => h pins s σ H v u Q I r (i v σ H Q q)
theorem PGs.imp {e : List Expr} {t t' : TGs} (h : PGs X e t) (i : ∀ v σ H Q, t' v σ H Q → t v σ H Q) : PGs X e t' := fun pins s σ H v u Q I r q => h pins s σ H v u Q I r (i v σ H Q q)
end
def bnd {a b : Type} (x : Option (a × HpM)) (f : a → HpM → Option b) : Option b := match x with | some (y, h) => f y h | none => none
theorem bnd_inv {a b : Type} {x : Option (a × HpM)} {f : a → HpM → Option b} {r : b} (e : bnd x f = some r) : ∃ y h, x = some (y, h) ∧ f y h = some r := by
  unfold bnd at e
  split at e
  · exact ⟨_, _, rfl, e⟩
  · cases e
end L2
set_option Elab.async false
set_option linter.all false
set_option maxRecDepth 100000
namespace L2
open PySem PySem.Spec PyProof.Rows
def mC (d : M) : FE := fun _ h => some (d, h)
def mVar (i : Nat) : FE := fun ρ h => match ρ[i]? with | some (some m) => some (m, h) | _ => none
def mNil : FA := fun _ h => some ([], h)
def mCons (a : FE) (r : FA) : FA := fun ρ h => bnd (a ρ h) fun x h1 => bnd (r ρ h1) fun xs h2 => some (x :: xs, h2)
def mTup (a : FA) : FE := fun ρ h => bnd (a ρ h) fun xs h1 => if xs.length ≤ 16777216 then some (.tup xs, h1) else none
def mLst (a : FA) : FE := fun ρ h => bnd (a ρ h) fun xs h1 => if xs.length ≤ 16777216 then some (.lst xs, h1) else none
def mLstH (a : FA) : FE := fun ρ h => bnd (a ρ h) fun xs h1 => if xs.length ≤ 16777216 then some (.ref h1.length, h1 ++ [.lst xs]) else none
def mOp (f : M → M → HpM → Option M) (a b : FE) : FE := fun ρ h => bnd (a ρ h) fun x h1 => bnd (b ρ h1) fun y h2 => (f x y h2).map (·, h2)
def mUn (f : M → HpM → Option M) (a : FE) : FE := fun ρ h => bnd (a ρ h) fun x h1 => (f x h1).map (·, h1)
def mCB (f : List M → HpM → Option M) (a : FA) : FE := fun ρ h => bnd (a ρ h) fun xs h1 => (f xs h1).map (·, h1)
def mCall (f : FF) (a : FA) : FE := fun ρ h => bnd (a ρ h) fun xs h1 => f xs h1
def mMt (ok : M → HpM → Bool) (f : M → List M → HpM → Option (M × HpM)) (o : FE) (a : FA) : FE := fun ρ h => bnd (o ρ h) fun x h1 => if ok x h1 = true then bnd (a ρ h1) fun xs h2 => f x xs h2 else none
def asB {a : Type} (x : M) (f : Bool → Option a) : Option a := match x with | .bl b => f b | _ => none
def mAnd (a b : FE) : FE := fun ρ h => bnd (a ρ h) fun x h1 => asB x fun c => if c = true then b ρ h1 else some (.bl false, h1)
def mNot (a : FE) : FE := fun ρ h => bnd (a ρ h) fun x h1 => asB x fun c => some (.bl (!c), h1)
def mIf (c : FT) (a b : FE) : FE := fun ρ h => bnd (c ρ h) fun c h1 => if c = true then a ρ h1 else b ρ h1
def mChain (f g : M → M → HpM → Option M) (a b c : FE) : FE := fun ρ h => bnd (a ρ h) fun x h1 => bnd (b ρ h1) fun y h2 => (f x y h2).bind fun z => asB z fun k => if k = true then bnd (c ρ h2) fun w h3 => (g y w h3).map (·, h3) else some (.bl false, h2)
def tV (a : FE) : FT := fun ρ h => bnd (a ρ h) fun x h1 => asB x fun c => some (c, h1)
def tAndM (a b : FT) : FT := fun ρ h => bnd (a ρ h) fun c h1 => if c = true then b ρ h1 else some (false, h1)
def tOrM (a b : FT) : FT := fun ρ h => bnd (a ρ h) fun c h1 => if c = true then some (true, h1) else b ρ h1
def tNotM (a : FT) : FT := fun ρ h => bnd (a ρ h) fun c h1 => some (!c, h1)
theorem asB_inv {a : Type} {x : M} {f : Bool → Option a} {r : a} (e : asB x f = some r) : ∃ b, x = .bl b ∧ f b = some r := by
  cases x <;> first | exact ⟨_, rfl, e⟩ | cases e
theorem map_inv {a : Type} {x : Option a} {h : HpM} {r : a × HpM} (e : x.map (·, h) = some r) : x = some r.1 ∧ r.2 = h := by
  cases x with
  | none => cases e
  | some y => cases e; exact ⟨rfl, rfl⟩
def OpM (K : PySem.W.Frag) (r : R2) (f : M → M → HpM → Option M) : Prop := ∀ (α : Pl) (h : HpM) (H : Hp) (x y d : M) (u v : V) (Q : VK), Rl K α h H → RepA K α H x u → RepA K α H y v → f x y h = some d → (∀ H' w, Same H H' → RepA K α H' d w → Q w H') → r u v H Q
def UnM (K : PySem.W.Frag) (r : V → Hp → VK → Prop) (f : M → HpM → Option M) : Prop := ∀ (α : Pl) (h : HpM) (H : Hp) (x d : M) (u : V) (Q : VK), Rl K α h H → RepA K α H x u → f x h = some d → (∀ H' w, Same H H' → RepA K α H' d w → Q w H') → r u H Q
def CallM (K : PySem.W.Frag) (r : List V → Hp → VK → Prop) (f : List M → HpM → Option M) : Prop := ∀ (α : Pl) (h : HpM) (H : Hp) (xs : List M) (d : M) (us : List V) (Q : VK), Rl K α h H → RepAs K α H xs us → f xs h = some d → (∀ H' w, Same H H' → RepA K α H' d w → Q w H') → r us H Q
def MtA (K : PySem.W.Frag) (r : V → List V → Hp → VK → Prop) (f : M → List M → HpM → Option (M × HpM)) : Prop := ∀ (α : Pl) (h h' : HpM) (H : Hp) (x : M) (xs : List M) (d : M) (u : V) (us : List V) (Q : VK), Rl K α h H → RepA K α H x u → RepAs K α H xs us → f x xs h = some (d, h') →
  (∀ α' H' w, Ev α α' H H' → Rl K α' h' H' → RepA K α' H' d w → Q w H') → r u us H Q
section
variable {X : Cx} {a b c e : Expr} {es : List Expr} {ma mb mc me : FE} {mas : FA} {ta tb : FT} {pos p : Pos}
theorem me_C {v : V} {d : M} (h : PE X e (tC v)) (r : ∀ α H, RepA X.K α H d v) : PE X e (tM X.K (mC d)) := h.imp fun σ H Q ⟨α, ρ, h, d', h', hσ, hr, e, k⟩ => by
  cases e
  exact k α H v .refl hr (r α H)
theorem me_int {i j pos} : PE X (.Constant (.int i) j pos) (tM X.K (mC (.int i))) := me_C pe_int fun _ _ => rfl
theorem me_bl {b j pos} : PE X (.Constant (.bool b) j pos) (tM X.K (mC (.bl b))) := me_C pe_bl fun _ _ => rfl
theorem me_non {j pos} : PE X (.Constant .none j pos) (tM X.K (mC .non)) := me_C pe_non fun _ _ => rfl
theorem me_str {x j pos} : PE X (.Constant (.str x) j pos) (tM X.K (mC (.str x))) := me_C pe_str fun _ _ => rfl
theorem me_var {i : Nat} (h : PE X e (tVar i)) : PE X e (tM X.K (mVar i)) := h.imp fun σ H Q ⟨α, ρ, h, d', h', hσ, hr, e, k⟩ => by
  unfold mVar at e
  split at e
  · rename_i m em
    cases e
    obtain ⟨v, h1, h2⟩ := hσ.2 i _ em
    exact ⟨v, h1, k α H v .refl hr h2⟩
  · cases e
theorem ma_nil : PA X [] (aM X.K mNil) := pa_nil.imp fun σ H Q ⟨α, ρ, h, d', h', hσ, hr, e, k⟩ => by
  cases e
  exact k α H [] .refl hr rfl
theorem ma_cons (ha : PE X e (tM X.K ma)) (hr : PA X es (aM X.K mas)) (h : notStar e = true) : PA X (e :: es) (aM X.K (mCons ma mas)) := (pa_c ha hr h).imp fun σ H Q ⟨α, ρ, h, d', h', hσ, hr, e, k⟩ => by
  obtain ⟨x, h1, e1, e⟩ := bnd_inv e
  obtain ⟨xs, h2, e2, e⟩ := bnd_inv e
  cases e
  exact ⟨α, ρ, h, x, h1, hσ, hr, e1, fun α1 H1 u ev1 hr1 rx => ⟨α1, ρ, h1, xs, _, hσ.ev ev1, hr1, e2, fun α2 H2 us ev2 hr2 rs => k α2 H2 _ (ev1.trans ev2) hr2 ⟨u, us, rfl, rx.ev ev2, rs⟩⟩⟩
theorem me_tup {x1} (h : PA X es (aM X.K mas)) : PE X (.Tuple es x1 pos) (tM X.K (mTup mas)) := (pe_tup h).imp fun σ H Q ⟨α, ρ, h, d', h', hσ, hr, e, k⟩ => by
  obtain ⟨xs, h1, e1, e⟩ := bnd_inv e
  split at e
  · rename_i hl
    cases e
    refine ⟨α, ρ, h, xs, _, hσ, hr, e1, fun α1 H1 us ev1 hr1 rs => ⟨by rw [← rs.length, sizeLine_eq]; exact hl, fun p hp => ?_⟩⟩
    have s := same_new hp (.tup us)
    exact k α1 _ _ (ev1.trans (.same s)) (hr1.same s) ⟨p, us, rfl, .inl ⟨.inl upd_same, hr1.new hp⟩, rs.ev (.same s)⟩
  · cases e
theorem me_lst (h : PA X es (aM X.K mas)) : PE X (.List es pos) (tM X.K (mLst mas)) := (pe_lst h).imp fun σ H Q ⟨α, ρ, h, d', h', hσ, hr, e, k⟩ => by
  obtain ⟨xs, h1, e1, e⟩ := bnd_inv e
  split at e
  · rename_i hl
    cases e
    refine ⟨α, ρ, h, xs, _, hσ, hr, e1, fun α1 H1 us ev1 hr1 rs => ⟨by rw [← rs.length, sizeLine_eq]; exact hl, fun p hp => ?_⟩⟩
    have s := same_new hp (.lst us)
    exact k α1 _ _ (ev1.trans (.same s)) (hr1.same s) ⟨p, us, rfl, hr1.new hp, upd_same, rs.ev (.same s)⟩
  · cases e
theorem me_lstH (h : PA X es (aM X.K mas)) : PE X (.List es pos) (tM X.K (mLstH mas)) := (pe_lst h).imp fun σ H Q ⟨α, ρ, h, d', h', hσ, hr, e, k⟩ => by
  obtain ⟨xs, h1, e1, e⟩ := bnd_inv e
  split at e
  · rename_i hl
    cases e
    refine ⟨α, ρ, h, xs, h1, hσ, hr, e1, fun α1 H1 us ev1 hr1 rs => ⟨by rw [← rs.length, sizeLine_eq]; exact hl, fun p hp => ?_⟩⟩
    have ea : Ev α1 (α1.add p) H1 (upd H1 p (.lst us)) := .alloc hp
    exact k (α1.add p) _ _ (ev1.trans ea) (hr1.alloc hp ⟨us, upd_same, rs.ev ea⟩) ⟨p, by rw [← hr1.len]; simp [Pl.add], rfl⟩
  · cases e
theorem me_op {op : Operator} {r : R2} {f : M → M → HpM → Option M} (ho : OpR X (binaryOp op) r) (hf : OpM X.K r f) (ha : PE X a (tM X.K ma)) (hb : PE X b (tM X.K mb)) : PE X (.BinOp a op b pos) (tM X.K (mOp f ma mb)) := (pe_op ho ha hb).imp fun σ H Q ⟨α, ρ, h, d, h', hσ, hr, e, k⟩ => by
  obtain ⟨x, h1, e1, e⟩ := bnd_inv e
  obtain ⟨y, h2, e2, e⟩ := bnd_inv e
  obtain ⟨e3, e4⟩ := map_inv e
  dsimp only at e3 e4
  subst e4
  exact ⟨α, ρ, h, x, h1, hσ, hr, e1, fun α1 H1 u ev1 hr1 rx => ⟨α1, ρ, h1, y, _, hσ.ev ev1, hr1, e2, fun α2 H2 v ev2 hr2 ry =>
    hf α2 _ H2 x y d u v Q hr2 (rx.ev ev2) ry e3 fun H3 w s rw => k α2 H3 w ((ev1.trans ev2).trans (.same s)) (hr2.same s) rw⟩⟩
theorem me_un {op : UnaryOp} {r : V → Hp → VK → Prop} {f : M → HpM → Option M} (ho : UnR X (unaryOp op) r) (hf : UnM X.K r f) (ha : PE X a (tM X.K ma)) : PE X (.UnaryOp op a pos) (tM X.K (mUn f ma)) := (pe_un ho ha).imp fun σ H Q ⟨α, ρ, h, d, h', hσ, hr, e, k⟩ => by
  obtain ⟨x, h1, e1, e⟩ := bnd_inv e
  obtain ⟨e3, e4⟩ := map_inv e
  dsimp only at e3 e4
  subst e4
  exact ⟨α, ρ, h, x, _, hσ, hr, e1, fun α1 H1 u ev1 hr1 rx => hf α1 _ H1 x d u Q hr1 rx e3 fun H3 w s rw => k α1 H3 w (ev1.trans (.same s)) (hr1.same s) rw⟩
theorem me_cmp {op : CmpOp} {r : R2} {f : M → M → HpM → Option M} (ho : OpR X (compareOp op) r) (hf : OpM X.K r f) (ha : PE X a (tM X.K ma)) (hb : PE X b (tM X.K mb)) (hm : behindInMarks op b = false) : PE X (.Compare a [op] [b] pos) (tM X.K (mOp f ma mb)) := (pe_cmpR ho ha hb hm).imp fun σ H Q ⟨α, ρ, h, d, h', hσ, hr, e, k⟩ => by
  obtain ⟨x, h1, e1, e⟩ := bnd_inv e
  obtain ⟨y, h2, e2, e⟩ := bnd_inv e
  obtain ⟨e3, e4⟩ := map_inv e
  dsimp only at e3 e4
  subst e4
  exact ⟨α, ρ, h, x, h1, hσ, hr, e1, fun α1 H1 u ev1 hr1 rx => ⟨α1, ρ, h1, y, _, hσ.ev ev1, hr1, e2, fun α2 H2 v ev2 hr2 ry =>
    hf α2 _ H2 x y d u v Q hr2 (rx.ev ev2) ry e3 fun H3 w s rw => k α2 H3 w ((ev1.trans ev2).trans (.same s)) (hr2.same s) rw⟩⟩
theorem mt_cmp {op : CmpOp} {r : R2} {f : M → M → HpM → Option M} (ho : OpR X (compareOp op) r) (hf : OpM X.K r f) (ha : PE X a (tM X.K ma)) (hb : PE X b (tM X.K mb)) (hm : behindInMarks op b = false) : PT X (.Compare a [op] [b] pos) (bM X.K (tV (mOp f ma mb))) := (pt_cmpR ho ha hb hm).imp fun σ H Q ⟨α, ρ, h, d, h', hσ, hr, e, k⟩ => by
  obtain ⟨z, h0, e0, e⟩ := bnd_inv e
  obtain ⟨q, rfl, e⟩ := asB_inv e
  cases e
  obtain ⟨x, h1, e1, e⟩ := bnd_inv e0
  obtain ⟨y, h2, e2, e⟩ := bnd_inv e
  obtain ⟨e3, e4⟩ := map_inv e
  dsimp only at e3 e4
  subst e4
  exact ⟨α, ρ, h, x, h1, hσ, hr, e1, fun α1 H1 u ev1 hr1 rx => ⟨α1, ρ, h1, y, _, hσ.ev ev1, hr1, e2, fun α2 H2 v ev2 hr2 ry =>
    hf α2 _ H2 x y _ u v _ hr2 (rx.ev ev2) ry e3 fun H3 w s rw => ⟨d, rw, k α2 H3 ((ev1.trans ev2).trans (.same s)) (hr2.same s)⟩⟩⟩
theorem me_chain {op op' : CmpOp} {r r' : R2} {f f' : M → M → HpM → Option M} (ho : OpR X (compareOp op) r) (hf : OpM X.K r f) (ho' : OpR X (compareOp op') r') (hf' : OpM X.K r' f') (ha : PE X a (tM X.K ma)) (hb : PE X b (tM X.K mb)) (hc : PE X c (tM X.K mc)) (hm : lastMarks [op, op'] [b, c] = false) :
    PE X (.Compare a [op, op'] [b, c] pos) (tM X.K (mChain f f' ma mb mc)) := (pe_chain ho ho' ha hb hc hm).imp fun σ H Q ⟨α, ρ, h, d, h', hσ, hr, e, k⟩ => by
  obtain ⟨x, h1, e1, e⟩ := bnd_inv e
  obtain ⟨y, h2, e2, e⟩ := bnd_inv e
  obtain ⟨z, e3, e⟩ := Option.bind_eq_some_iff.mp e
  obtain ⟨q, rfl, e⟩ := asB_inv e
  refine ⟨α, ρ, h, x, h1, hσ, hr, e1, fun α1 H1 u ev1 hr1 rx => ⟨α1, ρ, h1, y, h2, hσ.ev ev1, hr1, e2, fun α2 H2 v ev2 hr2 ry =>
    hf α2 _ H2 x y _ u v _ hr2 (rx.ev ev2) ry e3 fun H3 w s rw => ⟨q, rw, ?_⟩⟩⟩
  have hr3 := hr2.same s
  have ev3 := (ev1.trans ev2).trans (Ev.same (α := α2) s)
  cases q with
  | false => cases e; exact k α2 H3 _ ev3 hr3 rfl
  | true =>
    obtain ⟨w', h4, e4, e⟩ := bnd_inv e
    obtain ⟨e5, e6⟩ := map_inv e
    dsimp only at e5 e6
    subst e6
    exact ⟨α2, ρ, h2, w', _, hσ.ev ev3, hr3, e4, fun α4 H4 v4 ev4 hr4 r4 => hf' α4 _ H4 y w' _ v v4 _ hr4 ((ry.ev (.same s)).ev ev4) r4 e5 fun H5 w5 s5 r5 => k α4 H5 w5 ((ev3.trans ev4).trans (.same s5)) (hr4.same s5) r5⟩
theorem mt_val {t : FE} (h : PE X e (tM X.K t)) (he : ∀ whole, isTrue e X.env whole = (do let v ← whole; standAt e.pos; holding [v] (truthy v))) : PT X e (bM X.K (tV t)) := (pt_val h he).imp fun σ H Q ⟨α, ρ, h, d, h', hσ, hr, e, k⟩ => by
  obtain ⟨z, h0, e0, e⟩ := bnd_inv e
  obtain ⟨q, rfl, e⟩ := asB_inv e
  cases e
  exact ⟨α, ρ, h, _, _, hσ, hr, e0, fun α1 H1 u ev1 hr1 rx => ⟨d, rx, k α1 H1 ev1 hr1⟩⟩
theorem mw_and1 (ha : PT X a (bM X.K ta)) : PW X (.BoolOp .And [a] pos) (bM X.K ta) := pw_and1 ha
theorem mw_or1 (ha : PT X a (bM X.K ta)) : PW X (.BoolOp .Or [a] pos) (bM X.K ta) := pw_or1 ha
theorem mw_and {rest : List Expr} (ha : PT X a (bM X.K ta)) (hb : PW X (.BoolOp .And (b :: rest) pos) (bM X.K tb)) : PW X (.BoolOp .And (a :: b :: rest) pos) (bM X.K (tAndM ta tb)) := (pw_and ha hb).imp fun σ H Q ⟨α, ρ, h, d, h', hσ, hr, e, k⟩ => by
  obtain ⟨z, h0, e0, e⟩ := bnd_inv e
  refine ⟨α, ρ, h, z, h0, hσ, hr, e0, fun α1 H1 ev1 hr1 => ?_⟩
  cases z with
  | false => cases e; exact k α1 H1 ev1 hr1
  | true => exact ⟨α1, ρ, h0, d, h', hσ.ev ev1, hr1, e, fun α2 H2 ev2 hr2 => k α2 H2 (ev1.trans ev2) hr2⟩
theorem mw_or {rest : List Expr} (ha : PT X a (bM X.K ta)) (hb : PW X (.BoolOp .Or (b :: rest) pos) (bM X.K tb)) : PW X (.BoolOp .Or (a :: b :: rest) pos) (bM X.K (tOrM ta tb)) := (pw_or ha hb).imp fun σ H Q ⟨α, ρ, h, d, h', hσ, hr, e, k⟩ => by
  obtain ⟨z, h0, e0, e⟩ := bnd_inv e
  refine ⟨α, ρ, h, z, h0, hσ, hr, e0, fun α1 H1 ev1 hr1 => ?_⟩
  cases z with
  | true => cases e; exact k α1 H1 ev1 hr1
  | false => exact ⟨α1, ρ, h0, d, h', hσ.ev ev1, hr1, e, fun α2 H2 ev2 hr2 => k α2 H2 (ev1.trans ev2) hr2⟩
theorem mt_not (ha : PT X a (bM X.K ta)) : PT X (.UnaryOp .Not a pos) (bM X.K (tNotM ta)) := (pt_not ha).imp fun σ H Q ⟨α, ρ, h, d, h', hσ, hr, e, k⟩ => by
  obtain ⟨z, h0, e0, e⟩ := bnd_inv e
  cases e
  exact ⟨α, ρ, h, z, _, hσ, hr, e0, fun α1 H1 ev1 hr1 => k α1 H1 ev1 hr1⟩
theorem me_one {op} (h : PE X a (tM X.K ma)) : PE X (.BoolOp op [a] pos) (tM X.K ma) := pe_one h
theorem me_and {rest : List Expr} (ha : PE X a (tM X.K ma)) (hb : PE X (.BoolOp .And (b :: rest) pos) (tM X.K mb)) : PE X (.BoolOp .And (a :: b :: rest) pos) (tM X.K (mAnd ma mb)) := (pe_and ha hb).imp fun σ H Q ⟨α, ρ, h, d, h', hσ, hr, e, k⟩ => by
  obtain ⟨z, h0, e0, e⟩ := bnd_inv e
  obtain ⟨q, rfl, e⟩ := asB_inv e
  refine ⟨α, ρ, h, _, h0, hσ, hr, e0, fun α1 H1 u ev1 hr1 ru => ⟨q, ru, ?_⟩⟩
  cases q with
  | false => cases e; exact k α1 H1 _ ev1 hr1 rfl
  | true => exact ⟨α1, ρ, h0, d, h', hσ.ev ev1, hr1, e, fun α2 H2 w ev2 hr2 rw => k α2 H2 w (ev1.trans ev2) hr2 rw⟩
theorem me_not (ha : PE X a (tM X.K ma)) : PE X (.UnaryOp .Not a pos) (tM X.K (mNot ma)) := (pe_not ha).imp fun σ H Q ⟨α, ρ, h, d, h', hσ, hr, e, k⟩ => by
  obtain ⟨z, h0, e0, e⟩ := bnd_inv e
  obtain ⟨q, rfl, e⟩ := asB_inv e
  cases e
  exact ⟨α, ρ, h, _, _, hσ, hr, e0, fun α1 H1 u ev1 hr1 ru => ⟨q, ru, k α1 H1 _ ev1 hr1 rfl⟩⟩
theorem me_if (hc : PT X c (bM X.K ta)) (ha : PE X a (tM X.K ma)) (hb : PE X b (tM X.K mb)) : PE X (.IfExp c a b pos) (tM X.K (mIf ta ma mb)) := (pe_ifExp hc ha hb).imp fun σ H Q ⟨α, ρ, h, d, h', hσ, hr, e, k⟩ => by
  obtain ⟨z, h0, e0, e⟩ := bnd_inv e
  refine ⟨α, ρ, h, z, h0, hσ, hr, e0, fun α1 H1 ev1 hr1 => ?_⟩
  cases z with
  | true => exact ⟨α1, ρ, h0, d, h', hσ.ev ev1, hr1, e, fun α2 H2 w ev2 hr2 rw => k α2 H2 w (ev1.trans ev2) hr2 rw⟩
  | false => exact ⟨α1, ρ, h0, d, h', hσ.ev ev1, hr1, e, fun α2 H2 w ev2 hr2 rw => k α2 H2 w (ev1.trans ev2) hr2 rw⟩
section
variable {CX : CXT} {n : Nat} {f : Addr} {fd : FuncData} {ps : List Str} {m : FF} {E : XK} {id T : String} {r : List V → Hp → VK → Prop} {g : List M → HpM → Option M} {x : Str}
theorem me_call (F : FnOk X.prog X.w X.K X.mg X.base CX n f fd ps (spM X.K m)) (hr : Room n X.A) (q : NmOk X.env.scope x .globalImplicit) (hm : X.mg x = some (.ref f)) (hk : PySem.W.keepIn X.K (.ref f) = true) (hb : Binds X.K fd ps []) (hx : Passes CX X E)
    (ha : PA X (e :: es) (aM X.K mas)) (he : notStar e = true) (hpl : (backTo pos (starEach es X.env)).any (·.1) = false) : PE X (.Call (.Name x p) (e :: es) [] pos) (tM X.K (mCall m mas)) :=
  (pe_callk F hr q hm hk hb .nil hx ha he hpl).imp fun σ H Q ⟨α, ρ, h, d, h', hσ, hr, e, k⟩ => by
  obtain ⟨xs, h0, e0, e⟩ := bnd_inv e
  exact ⟨α, ρ, h, xs, h0, hσ, hr, e0, fun α1 H1 us ev1 hr1 rs => ⟨α1, h0, xs, d, h', by rw [List.append_nil]; exact rs, hr1, e, fun α2 H2 w ev2 hr2 rw => k α2 H2 w (ev1.trans ev2) hr2 rw⟩⟩
theorem me_CB (hc : CallR X (.builtin id) r) (hg : CallM X.K r g) (q : NmOk X.env.scope x .globalImplicit) (hm : X.mg x = none) (hv : bootBuiltins x = some (.builtin id)) (ha : PA X (e :: es) (aM X.K mas)) (he : notStar e = true) (hpl : (backTo pos (starEach es X.env)).any (·.1) = false) :
    PE X (.Call (.Name x p) (e :: es) [] pos) (tM X.K (mCB g mas)) := (pe_callBk hc q hm hv ha he hpl).imp fun σ H Q ⟨α, ρ, h, d, h', hσ, hr, e, k⟩ => by
  obtain ⟨xs, h0, e0, e⟩ := bnd_inv e
  obtain ⟨e5, e6⟩ := map_inv e
  dsimp only at e5 e6
  subst e6
  exact ⟨α, ρ, h, xs, _, hσ, hr, e0, fun α1 H1 us ev1 hr1 rs => hg α1 _ H1 xs d us Q hr1 rs e5 fun H2 w s rw => k α1 H2 w (ev1.trans (.same s)) (hr1.same s) rw⟩
theorem me_CTy (hc : CallR X (.type T) r) (hg : CallM X.K r g) (q : NmOk X.env.scope x .globalImplicit) (hm : X.mg x = none) (hv : bootBuiltins x = some (.type T)) (ha : PA X (e :: es) (aM X.K mas)) (he : notStar e = true) (hpl : (backTo pos (starEach es X.env)).any (·.1) = false) :
    PE X (.Call (.Name x p) (e :: es) [] pos) (tM X.K (mCB g mas)) := (pe_callTyk hc q hm hv ha he hpl).imp fun σ H Q ⟨α, ρ, h, d, h', hσ, hr, e, k⟩ => by
  obtain ⟨xs, h0, e0, e⟩ := bnd_inv e
  obtain ⟨e5, e6⟩ := map_inv e
  dsimp only at e5 e6
  subst e6
  exact ⟨α, ρ, h, xs, _, hσ, hr, e0, fun α1 H1 us ev1 hr1 rs => hg α1 _ H1 xs d us Q hr1 rs e5 fun H2 w s rw => k α1 H2 w (ev1.trans (.same s)) (hr1.same s) rw⟩
end
section
variable {o : Expr} {mo : FE} {name : Str} {apos cpos : Pos} {T id : String} {r : V → List V → Hp → VK → Prop} {ok : M → HpM → Bool} {f : M → List M → HpM → Option (M × HpM)}
theorem me_bm (pa : PlainAttrs T) (slot : Slot T name id) (hty : typeOf (.builtin id) = pure (.type "method_descriptor")) (hm : MtR X id r) (hok : ∀ α h H x v, Rl X.K α h H → RepA X.K α H x v → ok x h = true → tyV X.K T v H) (hf : MtA X.K r f)
    (ho : PE X o (tM X.K mo)) (ha : PA X (e :: es) (aM X.K mas)) (hbase : attributeBase o name X.env (eval o X.env) = eval o X.env)
    (hfew : ((backTo cpos (starEach (e :: es) X.env)).all (fun x => !x.1) && (backToKw cpos (keywordEach [] X.env)).all (fun x => x.1.isSome)
      && decide ((e :: es).length + ([] : List Keyword).length + (if ([] : List Keyword).isEmpty then 0 else 1) < 30)) = true)
    (hline : (apos.endLine == cpos.line) = true) (hs : starEach (e :: es) X.env = (false, eval e X.env) :: starEach es X.env) (hplain : (backTo cpos (starEach es X.env)).any (·.1) = false) :
    PE X (.Call (.Attribute o name apos) (e :: es) [] cpos) (tM X.K (mMt ok f mo mas)) := (pe_bm pa slot hty hm ho ha hbase hfew hline hs hplain).imp fun σ H Q ⟨α, ρ, h, d, h', hσ, hr, e, k⟩ => by
  obtain ⟨x, h0, e0, e⟩ := bnd_inv e
  split at e
  · rename_i hk
    obtain ⟨xs, h1, e1, e⟩ := bnd_inv e
    exact ⟨α, ρ, h, x, h0, hσ, hr, e0, fun α1 H1 u ev1 hr1 ru => ⟨hok α1 h0 H1 x u hr1 ru hk, α1, ρ, h0, xs, h1, hσ.ev ev1, hr1, e1, fun α2 H2 us ev2 hr2 rs =>
      hf α2 h1 h' H2 x xs d u us Q hr2 (ru.ev ev2) rs e fun α3 H3 w ev3 hr3 rw => k α3 H3 w ((ev1.trans ev2).trans ev3) hr3 rw⟩⟩
  · cases e
end
theorem me_ix {r : R2} {f : M → M → HpM → Option M} (ho : IxR X r) (hf : OpM X.K r f) (ha : PE X a (tM X.K ma)) (hb : PE X b (tM X.K mb)) (hs : PlainIx b) : PE X (.Subscript a b pos) (tM X.K (mOp f ma mb)) := (pe_ix ho ha hb hs).imp fun σ H Q ⟨α, ρ, h, d, h', hσ, hr, e, k⟩ => by
  obtain ⟨x, h1, e1, e⟩ := bnd_inv e
  obtain ⟨y, h2, e2, e⟩ := bnd_inv e
  obtain ⟨e3, e4⟩ := map_inv e
  dsimp only at e3 e4
  subst e4
  exact ⟨α, ρ, h, x, h1, hσ, hr, e1, fun α1 H1 u ev1 hr1 rx => ⟨α1, ρ, h1, y, _, hσ.ev ev1, hr1, e2, fun α2 H2 v ev2 hr2 ry =>
    hf α2 _ H2 x y d u v Q hr2 (rx.ev ev2) ry e3 fun H3 w s rw => k α2 H3 w ((ev1.trans ev2).trans (.same s)) (hr2.same s) rw⟩⟩
abbrev FO := EnvM → HpM → Option (Option Int × HpM)
def oM (K : PySem.W.Frag) (m : FO) : TO := fun σ H Q => ∃ α ρ h d h', REnv K α H ρ σ ∧ Rl K α h H ∧ m ρ h = some (d, h') ∧ ∀ α' H', Ev α α' H H' → Rl K α' h' H' → Q d H'
def oNo : FO := fun _ h => some (none, h)
def oSome (a : FE) : FO := fun ρ h => bnd (a ρ h) fun x h1 => match x with | .int i => some (some i, h1) | _ => none
theorem PO.imp {e : Option Expr} {t t' : TO} (h : PO X e t) (i : ∀ σ H Q, t' σ H Q → t σ H Q) : PO X e t' := fun pins s σ H Q I q => h pins s σ H Q I (i σ H Q q)
theorem mo_none : PO X none (oM X.K oNo) := po_none.imp fun σ H Q ⟨α, ρ, h, d, h', hσ, hr, e, k⟩ => by
  cases e
  exact k α H .refl hr
theorem mo_some (ha : PE X a (tM X.K ma)) : PO X (some a) (oM X.K (oSome ma)) := (po_some ha).imp fun σ H Q ⟨α, ρ, h, d, h', hσ, hr, e, k⟩ => by
  obtain ⟨x, h1, e1, e⟩ := bnd_inv e
  split at e
  · cases e
    exact ⟨α, ρ, h, _, _, hσ, hr, e1, fun α1 H1 u ev1 hr1 ru => ⟨_, ru, k α1 H1 ev1 hr1⟩⟩
  · cases e
def SlM (K : PySem.W.Frag) (r : V → Option Int → Option Int → Hp → VK → Prop) (f : M → Option Int → Option Int → HpM → Option M) : Prop := ∀ (α : Pl) (h : HpM) (H : Hp) (x d : M) (lo hi : Option Int) (u : V) (Q : VK), Rl K α h H → RepA K α H x u → f x lo hi h = some d → (∀ H' w, Same H H' → RepA K α H' d w → Q w H') → r u lo hi H Q
def mSl (f : M → Option Int → Option Int → HpM → Option M) (a : FE) (lo hi : FO) : FE := fun ρ h => bnd (a ρ h) fun x h1 => bnd (lo ρ h1) fun l h2 => bnd (hi ρ h2) fun u h3 => (f x l u h3).map (·, h3)
theorem me_slice {lo hi : Option Expr} {p2 : Pos} {r : V → Option Int → Option Int → Hp → VK → Prop} {f : M → Option Int → Option Int → HpM → Option M} {ml mh : FO} (hr : SlR X r) (hf : SlM X.K r f) (he : PE X a (tM X.K ma)) (hl : PO X lo (oM X.K ml)) (hu : PO X hi (oM X.K mh)) :
    PE X (.Subscript a (.Slice lo hi none p2) pos) (tM X.K (mSl f ma ml mh)) := (pe_slice hr he hl hu).imp fun σ H Q ⟨α, ρ, h, d, h', hσ, hr, e, k⟩ => by
  obtain ⟨x, h1, e1, e⟩ := bnd_inv e
  obtain ⟨l, h2, e2, e⟩ := bnd_inv e
  obtain ⟨u, h3, e3, e⟩ := bnd_inv e
  obtain ⟨e5, e6⟩ := map_inv e
  dsimp only at e5 e6
  subst e6
  exact ⟨α, ρ, h, x, h1, hσ, hr, e1, fun α1 H1 v ev1 hr1 rx => ⟨α1, ρ, h1, l, h2, hσ.ev ev1, hr1, e2, fun α2 H2 ev2 hr2 => ⟨α2, ρ, h2, u, _, hσ.ev (ev1.trans ev2), hr2, e3, fun α3 H3 ev3 hr3 =>
    hf α3 _ H3 x d l u v Q hr3 ((rx.ev ev2).ev ev3) e5 fun H4 w s rw => k α3 H4 w (((ev1.trans ev2).trans ev3).trans (.same s)) (hr3.same s) rw⟩⟩⟩
end
end L2
set_option Elab.async false
set_option linter.all false
set_option maxRecDepth 100000
namespace L2
open PySem PySem.Spec PyProof.Rows
def sNext : FS := fun ρ h => some (.nx ρ, h)
def sRet (a : FE) : FS := fun ρ h => bnd (a ρ h) fun x h1 => some (.rt x, h1)
def sDrop (a : FE) : FS := fun ρ h => bnd (a ρ h) fun _ h1 => some (.nx ρ, h1)
def sSeq (a b : FS) : FS := fun ρ h => bnd (a ρ h) fun o h1 => match o with | .nx ρ' => b ρ' h1 | o => some (o, h1)
def sIf (c : FT) (a b : FS) : FS := fun ρ h => bnd (c ρ h) fun c h1 => if c = true then a ρ h1 else b ρ h1
def gNm (i : Nat) : FG := fun x ρ h => some (ρ.set i (some x), h)
def gsNil : FGs := fun xs ρ h => match xs with | [] => some (ρ, h) | _ => none
def gsCons (g : FG) (gs : FGs) : FGs := fun xs ρ h => match xs with | x :: r => bnd (g x ρ h) fun ρ' h' => gs r ρ' h' | [] => none
def gTp (n : Nat) (gs : FGs) : FG := fun x ρ h => match x with | .tup xs => if xs.length = n then gs xs ρ h else none | _ => none
def sAsg (a : FE) (g : FG) : FS := fun ρ h => bnd (a ρ h) fun x h1 => bnd (g x ρ h1) fun ρ' h2 => some (.nx ρ', h2)
abbrev FI := EnvM → HpM → Option ((List M × Option Nat) × HpM)
def okS (xs : List M) (k : Option Nat) (h : HpM) : Prop := match k with | none => True | some k => h[k]? = some (.lst xs)
section
open Classical
noncomputable def mLoop (xs : List M) (k : Option Nat) (b : M → FS) : List M → EnvM → HpM → Option (Out × HpM)
  | [], ρ, h => if okS xs k h then some (.nx ρ, h) else none
  | x :: r, ρ, h => if okS xs k h then bnd (b x ρ h) fun o h1 => match o with
      | .nx ρ' => mLoop xs k b r ρ' h1
      | .ct ρ' => mLoop xs k b r ρ' h1
      | .bk ρ' => some (.nx ρ', h1)
      | .rt d => some (.rt d, h1)
    else none
noncomputable def mComps (xs : List M) (k : Option Nat) (g : FG) (c : FT) (e : FE) (τ : EnvM) : List M → HpM → Option (List M × HpM)
  | [], h => if okS xs k h then some ([], h) else none
  | x :: r, h => if okS xs k h then bnd (g x τ h) fun τ' h1 => bnd (c τ' h1) fun t h2 => if t = true then bnd (e τ' h2) fun y h3 => bnd (mComps xs k g c e τ r h3) fun ys h4 => some (y :: ys, h4) else mComps xs k g c e τ r h2
    else none
end
noncomputable def sFor (i : FI) (g : FG) (b : FS) : FS := fun ρ h => bnd (i ρ h) fun s h1 => mLoop s.1 s.2 (fun x ρ h => bnd (g x ρ h) fun ρ' h' => b ρ' h') s.1 ρ h1
def tauM (ix : List (Option Nat)) (ρ : EnvM) : EnvM := ix.map fun o => match o with | none => none | some j => (ρ[j]?).join
noncomputable def mComp (ix : List (Option Nat)) (i : FI) (g : FG) (c : FT) (e : FE) : FE := fun ρ h => bnd (i ρ h) fun s h1 => if s.1.length ≤ 16777216 then bnd (mComps s.1 s.2 g c e (tauM ix ρ) s.1 h1) fun ys h2 => some (.lst ys, h2) else none
def mWhile (c : FT) (b : FS) : Nat → FS
  | 0, _, _ => none
  | n + 1, ρ, h => bnd (c ρ h) fun t h1 => if t = true then bnd (b ρ h1) fun o h2 => match o with
      | .nx ρ' => mWhile c b n ρ' h2
      | .ct ρ' => mWhile c b n ρ' h2
      | .bk ρ' => some (.nx ρ', h2)
      | .rt d => some (.rt d, h2)
    else some (.nx ρ, h1)
def Wk (K : PySem.W.Frag) (α : Pl) (H : Hp) (xs : List M) (k : Option Nat) (J : It) : Prop := ∀ γ : List Addr, (∀ b ∈ γ, H b = none) → ∀ α1 h1 H1, Ev ⟨α.a, γ ++ α.g⟩ α1 H H1 → Rl K α1 h1 H1 → okS xs k h1 → ∀ i : Nat,
  (∀ x, xs[i]? = some x → J.go i H1 ∧ ∀ v H2, J.yld i H1 v H2 → Same H1 H2 ∧ RepA K α1 H2 x v) ∧ (i = xs.length → J.stop i H1)
def iM (K : PySem.W.Frag) (m : FI) : TI := fun σ H R => ∃ α ρ h s h', REnv K α H ρ σ ∧ Rl K α h H ∧ m ρ h = some (s, h') ∧ ∀ α' H' J, Ev α α' H H' → Rl K α' h' H' → Wk K α' H' s.1 s.2 J → R J H'
theorem REnv.set {K : PySem.W.Frag} {α : Pl} {H : Hp} {ρ : EnvM} {σ : St} {i : Nat} {x : M} {v : V} (r : REnv K α H ρ σ) (hx : RepA K α H x v) : REnv K α H (ρ.set i (some x)) (σ.set i (some v)) := by
  refine ⟨by simp [r.1], fun j m hj => ?_⟩
  by_cases e : i = j
  · subst e
    have hl : i < ρ.length := by have := (List.getElem?_eq_some_iff.mp hj).1; simpa using this
    rw [List.getElem?_set_self hl] at hj
    cases hj
    exact ⟨v, by rw [List.getElem?_set_self (by rw [← r.1]; exact hl)], hx⟩
  · rw [List.getElem?_set_ne e] at hj
    obtain ⟨w, h1, h2⟩ := r.2 j m hj
    exact ⟨w, by rw [List.getElem?_set_ne e]; exact h1, h2⟩
theorem REnv.tau {K : PySem.W.Frag} {α : Pl} {H : Hp} {ρ : EnvM} {σ : St} {ix : List (Option Nat)} (r : REnv K α H ρ σ) : REnv K α H (tauM ix ρ) (tau ix σ) := by
  refine ⟨by simp [tauM, L2.tau], fun j m hj => ?_⟩
  unfold tauM at hj
  rw [List.getElem?_map] at hj
  cases e : ix[j]? with
  | none => rw [e] at hj; cases hj
  | some o =>
    rw [e] at hj
    cases o with
    | none => cases hj
    | some q =>
      have hj' : (ρ[q]?).join = some m := Option.some.inj hj
      have hq : ρ[q]? = some (some m) := by
        cases e2 : ρ[q]? with
        | none => rw [e2] at hj'; cases hj'
        | some z => rw [e2] at hj'; exact congrArg some hj'
      obtain ⟨v, h1, h2⟩ := r.2 q m hq
      refine ⟨v, ?_, h2⟩
      unfold L2.tau
      rw [List.getElem?_map, e]
      show some (σ[q]?).join = _
      rw [h1]
      rfl
section
variable {X : Cx} {a b c e o : Expr} {es : List Expr} {ma mb mc me : FE} {mas : FA} {tc : FT} {st : Stmt} {rest : List Stmt} {ms mr : FS} {g : FG} {gs : FGs} {pos p : Pos}
theorem mss_nil : PSs X [] (sM X.K sNext) := pss_nil.imp fun D σ H ⟨α, ρ, h, d, h', hσ, hr, e, k⟩ => by
  cases e
  exact k α H .refl hr σ hσ
theorem mss_one (h : PS X st (sM X.K ms)) : PSs X [st] (sM X.K ms) := pss_one h
theorem mss_cons (h1 : PS X st (sM X.K ms)) (h2 : PSs X rest (sM X.K mr)) : PSs X (st :: rest) (sM X.K (sSeq ms mr)) := (pss_cons h1 h2).imp fun D σ H ⟨α, ρ, h, d, h', hσ, hr, e, k⟩ => by
  obtain ⟨o, h1, e1, e⟩ := bnd_inv e
  refine ⟨α, ρ, h, o, h1, hσ, hr, e1, fun α1 H1 ev1 hr1 => ?_⟩
  cases o with
  | nx ρ' => exact fun σ' hσ' => ⟨α1, ρ', h1, d, h', hσ', hr1, e, fun α2 H2 ev2 hr2 => k α2 H2 (ev1.trans ev2) hr2⟩
  | bk ρ' => cases e; exact k α1 H1 ev1 hr1
  | ct ρ' => cases e; exact k α1 H1 ev1 hr1
  | rt x => cases e; exact k α1 H1 ev1 hr1
theorem ms_ret (he : PE X e (tM X.K me)) : PS X (.Return (some e) pos) (sM X.K (sRet me)) := (ps_ret he).imp fun D σ H ⟨α, ρ, h, d, h', hσ, hr, e, k⟩ => by
  obtain ⟨x, h1, e1, e⟩ := bnd_inv e
  cases e
  exact ⟨α, ρ, h, x, _, hσ, hr, e1, fun α1 H1 v ev1 hr1 rv => k α1 H1 ev1 hr1 v rv⟩
theorem ms_expr (he : PE X e (tM X.K me)) (hs : notComp e = true) : PS X (.Expr e pos) (sM X.K (sDrop me)) := (ps_exprk he hs).imp fun D σ H ⟨α, ρ, h, d, h', hσ, hr, e, k⟩ => by
  obtain ⟨x, h1, e1, e⟩ := bnd_inv e
  cases e
  exact ⟨α, ρ, h, x, _, hσ, hr, e1, fun α1 H1 v ev1 hr1 rv => k α1 H1 ev1 hr1 σ (hσ.ev ev1)⟩
theorem ms_if {s1 s2 : List Stmt} (hc : PT X c (bM X.K tc)) (ha : PSs X s1 (sM X.K ms)) (hb : PSs X s2 (sM X.K mr)) : PS X (.If c s1 s2 pos) (sM X.K (sIf tc ms mr)) := (ps_if hc ha hb).imp fun D σ H ⟨α, ρ, h, d, h', hσ, hr, e, k⟩ => by
  obtain ⟨z, h1, e1, e⟩ := bnd_inv e
  refine ⟨α, ρ, h, z, h1, hσ, hr, e1, fun α1 H1 ev1 hr1 => ?_⟩
  cases z with
  | true => exact ⟨α1, ρ, h1, d, h', hσ.ev ev1, hr1, e, fun α2 H2 ev2 hr2 => k α2 H2 (ev1.trans ev2) hr2⟩
  | false => exact ⟨α1, ρ, h1, d, h', hσ.ev ev1, hr1, e, fun α2 H2 ev2 hr2 => k α2 H2 (ev1.trans ev2) hr2⟩
theorem mg_name {i : Nat} (h : PG X e (gName i)) : PG X e (gM X.K (gNm i)) := h.imp fun v σ H Q ⟨α, ρ, h, x, ρ', h', hσ, hr, rx, e, k⟩ => by
  cases e
  exact k α H _ .refl hr (hσ.set rx)
theorem mgs_nil : PGs X [] (gsM X.K gsNil) := pgs_nil.imp fun v σ H Q ⟨α, ρ, h, x, ρ', h', hσ, hr, rx, e, k⟩ => by
  cases x with
  | nil => cases e; exact ⟨rx, k α H _ .refl hr hσ⟩
  | cons _ _ => cases e
theorem mgs_cons (h1 : PG X e (gM X.K g)) (h2 : PGs X es (gsM X.K gs)) (hs : (assignEach (e :: es) X.env).map (·.2) = assign e X.env :: (assignEach es X.env).map (·.2)) : PGs X (e :: es) (gsM X.K (gsCons g gs)) := (pgs_cons h1 h2 hs).imp fun v σ H Q ⟨α, ρ, h, x, ρ', h', hσ, hr, rx, e, k⟩ => by
  cases x with
  | nil => cases e
  | cons x r =>
    obtain ⟨u, us, rfl, ru, rs⟩ := rx
    obtain ⟨ρ1, h1, e1, e⟩ := bnd_inv e
    exact ⟨u, us, rfl, α, ρ, h, x, ρ1, h1, hσ, hr, ru, e1, fun α1 H1 σ1 ev1 hr1 hσ1 => ⟨α1, ρ1, h1, r, ρ', h', hσ1, hr1, rs.ev ev1, e, fun α2 H2 σ2 ev2 hr2 hσ2 => k α2 H2 σ2 (ev1.trans ev2) hr2 hσ2⟩⟩
theorem mg_tup {k : Nat} {n : Nat} (hc : X.calm = true) (h : PGs X es (gsM X.K gs)) (hn : (assignEach es X.env).length = n) (hst : (assignEach es X.env).findIdx? (·.1) = none) : PG X (.Tuple es k pos) (gM X.K (gTp n gs)) := (pg_tup hc h hn hst).imp fun v σ H Q ⟨α, ρ, h, x, ρ', h', hσ, hr, rx, e, k⟩ => by
  unfold gTp at e
  split at e
  · split at e
    · rename_i xs hl
      obtain ⟨a, vs, rfl, t, rs⟩ := rx
      exact ⟨a, vs, rfl, t.sq, by rw [← rs.length]; exact hl, α, ρ, h, xs, ρ', h', hσ, hr, rs, e, k⟩
    · cases e
  · cases e
theorem ms_asg {tg : Expr} (he : PE X e (tM X.K me)) (hg : PG X tg (gM X.K g)) (hs : swapsWithSole [tg] e pos.line X.env = pure false) (hw : swappedStores [tg] e X.env = pure none) (h1 : (assignEach [tg] X.env).map (·.2) = [assign tg X.env]) :
    PS X (.Assign [tg] e pos) (sM X.K (sAsg me g)) := (ps_asg he hg hs hw h1).imp fun D σ H ⟨α, ρ, h, d, h', hσ, hr, e, k⟩ => by
  obtain ⟨x, h1, e1, e⟩ := bnd_inv e
  obtain ⟨ρ1, h2, e2, e⟩ := bnd_inv e
  cases e
  exact ⟨α, ρ, h, x, h1, hσ, hr, e1, fun α1 H1 v ev1 hr1 rv => ⟨α1, ρ, h1, x, ρ1, _, hσ.ev ev1, hr1, rv, e2, fun α2 H2 σ2 ev2 hr2 hσ2 => k α2 H2 (ev1.trans ev2) hr2 σ2 hσ2⟩⟩
theorem ms_set {i : Nat} {x : Str} {pos' : Pos} (hN : X.N.Nodup) (hi : X.N[i]? = some x) (hx : Loc X.env.scope x) (he : PE X e (tM X.K me)) (hs : notComp e = true) (hf : X.fn x = true) :
    PS X (.Assign [.Name x pos'] e pos) (sM X.K (sAsg me (gNm i))) := (ps_setk hN hi hx he hs hf).imp fun D σ H ⟨α, ρ, h, d, h', hσ, hr, e, k⟩ => by
  obtain ⟨x, h1, e1, e⟩ := bnd_inv e
  cases e
  exact ⟨α, ρ, h, x, _, hσ, hr, e1, fun α1 H1 v ev1 hr1 rv => k α1 H1 ev1 hr1 _ ((hσ.ev ev1).set rv)⟩
theorem ms_while {body : List Stmt} (N : Nat) (hp : PassesOwn (model X.prog X.w) X.A X.env X.xe) (hc : PT X c (bM X.K tc)) (hb : PSs X body (sM X.K ms)) : PS X (.While c body [] pos) (sM X.K (mWhile tc ms N)) := (ps_while hp hc hb).imp fun D σ H ⟨α, ρ, h, d, h', hσ, hr, e, k⟩ => by
  refine ⟨fun m σ H => ∃ α ρ h, REnv X.K α H ρ σ ∧ Rl X.K α h H ∧ mWhile tc ms m ρ h = some (d, h') ∧ ∀ α' H', Ev α α' H H' → Rl X.K α' h' H' → Fin X.K D α' H' d, ⟨N, α, ρ, h, hσ, hr, e, k⟩, ?_⟩
  rintro m σ H ⟨α, ρ, h, hσ, hr, e, k⟩
  cases m with
  | zero => cases e
  | succ m =>
    obtain ⟨t, h1, e1, e⟩ := bnd_inv e
    refine ⟨α, ρ, h, t, h1, hσ, hr, e1, fun α1 H1 ev1 hr1 => ?_⟩
    cases t with
    | false => cases e; exact k α1 H1 ev1 hr1 σ (hσ.ev ev1)
    | true =>
      obtain ⟨o, h2, e2, e⟩ := bnd_inv e
      refine ⟨fun σ' H' => ∃ α ρ h, REnv X.K α H' ρ σ' ∧ Rl X.K α h H' ∧ mWhile tc ms m ρ h = some (d, h') ∧ ∀ α' H'', Ev α α' H' H'' → Rl X.K α' h' H'' → Fin X.K D α' H'' d, fun σ' H' q => ⟨m, Nat.lt_succ_self m, q⟩, α1, ρ, h1, o, h2, hσ.ev ev1, hr1, e2, fun α2 H2 ev2 hr2 => ?_⟩
      cases o with
      | nx ρ' => exact fun σ' hσ' => ⟨α2, ρ', h2, hσ', hr2, e, fun α3 H3 ev3 hr3 => k α3 H3 ((ev1.trans ev2).trans ev3) hr3⟩
      | ct ρ' => exact fun σ' hσ' => ⟨α2, ρ', h2, hσ', hr2, e, fun α3 H3 ev3 hr3 => k α3 H3 ((ev1.trans ev2).trans ev3) hr3⟩
      | bk ρ' => cases e; exact fun σ' hσ' => k α2 H2 (ev1.trans ev2) hr2 σ' hσ'
      | rt x => cases e; exact fun v rv => k α2 H2 (ev1.trans ev2) hr2 v rv
theorem ms_for {iter tg : Expr} {body : List Stmt} {mi : FI} (hp : PassesOwn (model X.prog X.w) X.A X.env X.xe) (hc : X.calm = true) (hi : PI X tg iter (iM X.K mi)) (hg : PG X tg (gM X.K g)) (hb : PSs X body (sM X.K ms)) (hs : ∀ x, foldedSetIterable iter X.env x = pure x) :
    PS X (.For tg iter body [] pos) (sM X.K (sFor mi g ms)) := (ps_for hp hc hi hg hb hs).imp fun D σ H ⟨α, ρ, h, d, h', hσ, hr, e, k⟩ => by
  obtain ⟨s, h1, e1, e⟩ := bnd_inv e
  refine ⟨α, ρ, h, s, h1, hσ, hr, e1, fun α1 H1 J ev1 hr1 wk => ?_⟩
  refine ⟨fun i m σ2 H2 => m = s.1.length - i ∧ i ≤ s.1.length ∧ ∃ α2 ρ2 h2, Ev α1 α2 H1 H2 ∧ REnv X.K α2 H2 ρ2 σ2 ∧ Rl X.K α2 h2 H2 ∧ mLoop s.1 s.2 (fun x ρ h => bnd (g x ρ h) fun ρ' h' => ms ρ' h') (s.1.drop i) ρ2 h2 = some (d, h'), ⟨_, rfl, Nat.zero_le _, α1, ρ, h1, .refl, hσ.ev ev1, hr1, e⟩, ?_⟩
  rintro i m σ2 H2 ⟨rfl, hi, α2, ρ2, h2, ev2, hσ2, hr2, e⟩
  by_cases hlt : i < s.1.length
  · right
    rw [List.drop_eq_getElem_cons hlt] at e
    unfold mLoop at e
    split at e
    · rename_i ok
      obtain ⟨go, yl⟩ := (wk [] (by simp) α2 h2 H2 ev2 hr2 ok i).1 s.1[i] (by simp [hlt])
      refine ⟨go, fun σ' H' => ∃ α3 ρ3 h3, Ev α1 α3 H1 H' ∧ REnv X.K α3 H' ρ3 σ' ∧ Rl X.K α3 h3 H' ∧ mLoop s.1 s.2 (fun x ρ h => bnd (g x ρ h) fun ρ' h' => ms ρ' h') (s.1.drop (i + 1)) ρ3 h3 = some (d, h'), fun σ' H' q => ⟨_, by omega, rfl, hlt, q⟩, fun v H3 y => ?_⟩
      obtain ⟨s3, rv⟩ := yl v H3 y
      obtain ⟨o, h4, e4, e⟩ := bnd_inv e
      obtain ⟨ρ5, h5, e5, e4⟩ := bnd_inv e4
      refine ⟨α2, ρ2, h2, _, ρ5, h5, hσ2.ev (.same s3), hr2.same s3, rv, e5, fun α5 H5 σ5 ev5 hr5 hσ5 => ?_⟩
      refine ⟨α5, ρ5, h5, o, h4, hσ5, hr5, e4, fun α6 H6 ev6 hr6 => ?_⟩
      have evA : Ev α1 α6 H1 H6 := ((ev2.trans (.same s3)).trans ev5).trans ev6
      cases o with
      | nx ρ' => exact fun σ' hσ' => ⟨α6, ρ', h4, evA, hσ', hr6, e⟩
      | ct ρ' => exact fun σ' hσ' => ⟨α6, ρ', h4, evA, hσ', hr6, e⟩
      | bk ρ' => cases e; exact fun σ' hσ' => k α6 H6 (ev1.trans evA) hr6 σ' hσ'
      | rt x => cases e; exact fun v rv => k α6 H6 (ev1.trans evA) hr6 v rv
    · cases e
  · left
    have ei : i = s.1.length := by omega
    subst ei
    rw [List.drop_length] at e
    unfold mLoop at e
    split at e
    · rename_i ok
      cases e
      exact ⟨(wk [] (by simp) α2 _ H2 ev2 hr2 ok _).2 rfl, k α2 H2 (ev1.trans ev2) hr2 σ2 hσ2⟩
    · cases e
def CG (K : PySem.W.Frag) (ix : List (Option Nat)) (g0 : TG) (g : FG) : Prop := ∀ (α : Pl) (h : HpM) (H : Hp) (σ σ1 : St) (ρ1 : EnvM) (x : M) (v : V) (ρ' : EnvM) (h' : HpM) (Q : St → Hp → Prop), Kept0 ix σ σ1 → REnv K α H ρ1 σ1 → RepA K α H x v → g x ρ1 h = some (ρ', h') →
  (∀ σ', Kept0 ix σ σ' → REnv K α H ρ' σ' → h' = h → Q σ' H) → g0 v σ1 H Q
theorem cg_name {K : PySem.W.Frag} {ix : List (Option Nat)} {i : Nat} (hi : ix[i]? = some none) : CG K ix (gName i) (gNm i) := by
  intro α h H σ σ1 ρ1 x v ρ' h' Q kp hσ rx e k
  cases e
  refine k _ ⟨by simp [kp.1], fun q w hq => ?_⟩ (hσ.set rx) rfl
  by_cases z : i = q
  · subst z
    unfold L2.tau at hq
    rw [List.getElem?_map, hi] at hq
    cases hq
  · rw [List.getElem?_set_ne z]; exact kp.2 q w hq
theorem mts_one (h : PT X c (bM X.K tc)) : PTs X [c] (bM X.K tc) := pts_one h
theorem kept_tau {ix : List (Option Nat)} {σ : St} : Kept0 ix σ (tau ix σ) := ⟨by simp [L2.tau], fun _ _ h => h⟩
theorem comp_reads {K : PySem.W.Frag} {ix : List (Option Nat)} {mi : FI} {g0 : TG} {g : FG} {tc : FT} {me : FE} (cg : CG K ix g0 g) {σ : St} {H : Hp} {Q : VK} (q : tM K (mComp ix mi g tc me) σ H Q) : tComp ix (iM K mi) g0 (bM K tc) (tM K me) σ H Q := by
  obtain ⟨α, ρ, h, d, h', hσ, hr, e, k⟩ := q
  obtain ⟨s, h1, e1, e⟩ := bnd_inv e
  split at e
  · rename_i hl
    obtain ⟨ys, h2, e2, e⟩ := bnd_inv e
    cases e
    refine ⟨α, ρ, h, s, h1, hσ, hr, e1, fun α1 H1 J ev1 hr1 wk D hD => ?_⟩
    have hσ1 := (hσ.ev ev1).tau (ix := ix)
    have hDg : D ∉ α1.g := fun hm => by
      obtain ⟨o, e⟩ := hr1.hid D hm
      rw [hD] at e; cases e
    have hγ : ∀ b ∈ [D], H1 b = none := fun b hb => by rw [List.mem_singleton.mp hb]; exact hD
    refine ⟨fun i m acc H2 => m = s.1.length - i ∧ i ≤ s.1.length ∧ acc.length ≤ i ∧ ∃ a2 h2 zs rs, ys = zs ++ rs ∧ Ev (α1.hide D) (Pl.hide ⟨a2, α1.g⟩ D) H1 H2 ∧ Rl K (Pl.hide ⟨a2, α1.g⟩ D) h2 H2 ∧ REnv K (Pl.hide ⟨a2, α1.g⟩ D) H2 (tauM ix ρ) (tau ix σ) ∧ RepAs K (Pl.hide ⟨a2, α1.g⟩ D) H2 zs acc ∧ mComps s.1 s.2 g tc me (tauM ix ρ) (s.1.drop i) h2 = some (rs, h'),
      ⟨_, rfl, Nat.zero_le _, Nat.zero_le _, α1.a, h1, [], ys, rfl, .same (same_new hD _), hr1.lay hD, (hσ1.hide hD).ev (.same (same_new hD _)), rfl, e2⟩, ?_⟩
    rintro i m acc H2 ⟨rfl, hi, hacc, a2, h2, zs, rs, ey, ev2, hr2, hσ2, rz, e⟩ hDa
    have hDm : D ∈ (Pl.hide ⟨a2, α1.g⟩ D).g := List.mem_cons_self
    have hDn : D ∉ a2 := fun hm => hr2.ap D hm hDm
    by_cases hlt : i < s.1.length
    · right
      rw [List.drop_eq_getElem_cons hlt] at e
      unfold mComps at e
      split at e
      · rename_i ok
        obtain ⟨go, yl⟩ := (wk [D] hγ _ h2 H2 ev2 hr2 ok i).1 s.1[i] (by simp [hlt])
        refine ⟨go, by rw [sizeLine_eq]; omega, fun v H3 y => ?_⟩
        obtain ⟨s3, rv⟩ := yl v H3 y
        obtain ⟨τ', h3, e3, e⟩ := bnd_inv e
        obtain ⟨t, h4, e4, e⟩ := bnd_inv e
        refine cg _ h2 H3 σ (tau ix σ) (tauM ix ρ) _ v τ' h3 _ kept_tau (hσ2.ev (.same s3)) rv e3 fun σ' kp hσ' eh => ⟨kp, ?_⟩
        subst eh
        refine ⟨_, τ', _, t, h4, hσ', hr2.same s3, e4, fun α4 H4 ev4 hr4 => ?_⟩
        have hD4 : H4 D = some (.lst acc) := ev4.keep _ _ (s3 _ _ hDa) hDn
        have hg4 : α4.g = D :: α1.g := ev4.pre.1
        have ea4 : α4 = Pl.hide ⟨α4.a, α1.g⟩ D := by cases α4; cases hg4; rfl
        have evA : Ev (α1.hide D) α4 H1 H4 := (ev2.trans (.same s3)).trans ev4
        cases t with
        | false =>
          refine ⟨hD4, _, ?_, rfl, hlt, by omega, α4.a, h4, zs, rs, ey, ?_, ?_, ?_, ?_, e⟩
          · omega
          · rw [← ea4]; exact evA
          · rw [← ea4]; exact hr4
          · rw [← ea4]; exact (hσ2.ev (.same s3)).ev ev4
          · rw [← ea4]; exact (rz.ev (.same s3)).ev ev4
        | true =>
          obtain ⟨y, h5, e5, e⟩ := bnd_inv e
          obtain ⟨rs', h6, e6, e⟩ := bnd_inv e
          cases e
          refine ⟨α4, τ', h4, y, h5, hσ'.ev ev4, hr4, e5, fun α5 H5 w ev5 hr5 rw' => ?_⟩
          have hD4n : D ∉ α4.a := fun hm => hr4.ap D hm (by rw [hg4]; exact List.mem_cons_self)
          have hD5 : H5 D = some (.lst acc) := ev5.keep _ _ hD4 hD4n
          have hg5 : α5.g = D :: α1.g := ev5.pre.1.trans hg4
          have hD5m : D ∈ α5.g := by rw [hg5]; exact List.mem_cons_self
          have ea5 : α5 = Pl.hide ⟨α5.a, α1.g⟩ D := by cases α5; cases hg5; rfl
          refine ⟨hD5, _, ?_, rfl, hlt, by simp; omega, α5.a, h5, zs ++ [y], rs', by rw [ey]; simp, ?_, ?_, ?_, ?_, e6⟩
          · omega
          · rw [← ea5]; exact (evA.trans ev5).hw hD
          · rw [← ea5]; exact hr5.hw hD5m
          · rw [← ea5]; exact (((hσ2.ev (.same s3)).ev ev4).ev ev5).hw hD5m
          · rw [← ea5]; exact ((((rz.ev (.same s3)).ev ev4).ev ev5).snoc rw').hw hD5m
      · cases e
    · left
      have ei : i = s.1.length := by omega
      subst ei
      rw [List.drop_length] at e
      unfold mComps at e
      split at e
      · rename_i ok
        cases e
        refine ⟨(wk [D] hγ _ _ H2 ev2 hr2 ok _).2 rfl, k ⟨a2, α1.g⟩ H2 _ (ev1.trans ev2.unhide) hr2.show ⟨D, acc, rfl, ⟨hDn, hDg⟩, hDa, ?_⟩⟩
        rw [ey, List.append_nil]; exact rz.show
      · cases e
  · cases e
theorem me_comp {elt tg iter : Expr} {ifs : List Expr} {scope : Scope} {N' : List Str} {ix : List (Option Nat)} {mi : FI} {g0 : TG}
    (S : CompScope X N' ix scope) (hcalm : X.calm = true) (cg : CG X.K ix g0 g) (hi : PI X tg iter (iM X.K mi))
    (hg : ∀ C s₀ H₀ fp, PG (X.comp scope (clOf X.env.cells scope.names []) C s₀ H₀ fp N') tg g0)
    (ht : ∀ C s₀ H₀ fp, PTs (X.comp scope (clOf X.env.cells scope.names []) C s₀ H₀ fp N') ifs (bM (X.comp scope (clOf X.env.cells scope.names []) C s₀ H₀ fp N').K tc))
    (he : ∀ C s₀ H₀ fp, PE (X.comp scope (clOf X.env.cells scope.names []) C s₀ H₀ fp N') elt (tM (X.comp scope (clOf X.env.cells scope.names []) C s₀ H₀ fp N').K me))
    (hs : ∀ x, foldedSetIterable iter X.env x = pure x) : PE X (.ListComp elt [⟨tg, iter, ifs, 0⟩] scope pos) (tM X.K (mComp ix mi g tc me)) :=
  (pe_comp S hcalm hi hg ht he hs).imp fun σ H Q q => comp_reads cg q
end
end L2
set_option Elab.async false
set_option linter.all false
set_option maxRecDepth 100000
namespace L2
open PySem PySem.Spec PyProof.Rows
section
variable {X : Cx} {a b c e o : Expr} {es : List Expr} {ma mb mc me : FE} {mas : FA} {tc : FT} {st : Stmt} {rest : List Stmt} {ms mr : FS} {g : FG} {gs : FGs} {pos p : Pos}
theorem PI.imp {tg iter : Expr} {t t' : TI} (h : PI X tg iter t) (i : ∀ σ H R, t' σ H R → t σ H R) : PI X tg iter t' := fun pins s σ H R I q => h pins s σ H R I (i σ H R q)
def iT (a : FE) : FI := fun ρ h => bnd (a ρ h) fun x h1 => match x with | .tup xs => some ((xs, none), h1) | _ => none
def iR1 (a : FA) : FI := fun ρ h => bnd (a ρ h) fun xs h1 => match xs with | [.int j] => if -4611686018427387904 ≤ j ∧ j < 4611686018427387904 then some (((List.range j.toNat).map fun (i : Nat) => M.int (i : Int), none), h1) else none | _ => none
theorem RepAs.ints {K : PySem.W.Frag} {α : Pl} {H : Hp} : ∀ {ns : List Int}, RepAs K α H (ns.map M.int) (ns.map V.int)
  | [] => rfl
  | n :: ns => ⟨_, _, rfl, rfl, RepAs.ints⟩
theorem RepA.hides {K : PySem.W.Frag} {α : Pl} {H : Hp} {m : M} {v : V} (r : RepA K α H m v) : ∀ {γ : List Addr}, (∀ b ∈ γ, H b = none) → RepA K ⟨α.a, γ ++ α.g⟩ H m v
  | [], _ => r
  | p :: γ, h => RepA.hide (α := ⟨α.a, γ ++ α.g⟩) (h p List.mem_cons_self) (RepA.hides r fun b hb => h b (List.mem_cons_of_mem _ hb))
theorem wk_list {K : PySem.W.Frag} {α : Pl} {H : Hp} {a : Addr} {xs : List M} {k : Option Nat} (hs : ∀ γ, (∀ b ∈ γ, H b = none) → ∀ α1 h1 H1, Ev ⟨α.a, γ ++ α.g⟩ α1 H H1 → Rl K α1 h1 H1 → okS xs k h1 → ∃ vs, SqL K H1 a vs ∧ RepAs K α1 H1 xs vs) : Wk K α H xs k (Itl K a) := by
  intro γ hγ α1 h1 H1 ev hr ok i
  obtain ⟨vs, sq, rs⟩ := hs γ hγ α1 h1 H1 ev hr ok
  refine ⟨fun x hx => ?_, fun hl => ⟨vs, sq, by rw [← rs.length]; omega⟩⟩
  obtain ⟨v, hv, rv⟩ := rs.get hx
  refine ⟨⟨vs, v, sq, hv⟩, fun w H2 y => ?_⟩
  obtain ⟨e1, e2⟩ := y
  subst e1
  have := e2 vs sq
  rw [hv] at this
  cases this
  exact ⟨Same.refl _, rv⟩
theorem wk_tup {K : PySem.W.Frag} {α : Pl} {H : Hp} {a : Addr} {xs : List M} {k : Option Nat} (hs : ∀ γ, (∀ b ∈ γ, H b = none) → ∀ α1 h1 H1, Ev ⟨α.a, γ ++ α.g⟩ α1 H H1 → Rl K α1 h1 H1 → okS xs k h1 → ∃ vs, SqT K H1 a vs ∧ RepAs K α1 H1 xs vs) : Wk K α H xs k (Itt K a) := by
  intro γ hγ α1 h1 H1 ev hr ok i
  obtain ⟨vs, sq, rs⟩ := hs γ hγ α1 h1 H1 ev hr ok
  refine ⟨fun x hx => ?_, fun hl => ⟨vs, sq, by rw [← rs.length]; omega⟩⟩
  obtain ⟨v, hv, rv⟩ := rs.get hx
  refine ⟨⟨vs, v, sq, hv⟩, fun w H2 y => ?_⟩
  obtain ⟨e1, e2⟩ := y
  subst e1
  have := e2 vs sq
  rw [hv] at this
  cases this
  exact ⟨Same.refl _, rv⟩
theorem mi_tup {l tg : Expr} {ml : FE} (hl : PE X l (tM X.K ml)) : PI X tg l (iM X.K (iT ml)) := (pi_tup hl).imp fun σ H R ⟨α, ρ, h, s, h', hσ, hr, e, k⟩ => by
  obtain ⟨x, h1, e1, e⟩ := bnd_inv e
  split at e
  · cases e
    refine ⟨α, ρ, h, _, _, hσ, hr, e1, fun α1 H1 v ev1 hr1 rv => ?_⟩
    obtain ⟨a, vs, rfl, ha, rs⟩ := id rv
    refine ⟨a, rfl, ⟨vs, ha.sq⟩, k α1 H1 _ ev1 hr1 (wk_tup fun γ hγ α2 h2 H2 ev2 hr2 _ => ?_)⟩
    obtain ⟨a', vs', ea, ha', rs'⟩ := (rv.hides hγ).ev ev2
    cases ea
    exact ⟨vs', ha'.sq, rs'⟩
  · cases e
theorem wk_range {K : PySem.W.Frag} {α : Pl} {H : Hp} {lo : Int} {n : Nat} : Wk K α H ((List.range n).map fun (q : Nat) => M.int (lo + q)) none (Itr lo n) := by
  intro γ hγ α2 h2 H2 ev2 hr2 _ i
  refine ⟨fun x hx => ?_, fun hl => show n ≤ i by simp at hl; omega⟩
  have hi : i < n := by simpa using (List.getElem?_eq_some_iff.mp hx).1
  rw [List.getElem?_map, List.getElem?_range hi] at hx
  cases hx
  refine ⟨hi, fun w H3 y => ?_⟩
  obtain ⟨e1, ew⟩ := y
  subst e1 ew
  exact ⟨Same.refl _, rfl⟩
theorem mi_range1 {a tg : Expr} (hg : Gl X "range") (hm : X.mg "range" = none) (ha : PA X [a] (aM X.K mas)) (hs : starEach [a] X.env = [(false, eval a X.env)]) : PI X tg (.Call (.Name "range" p) [a] [] pos) (iM X.K (iR1 mas)) := (pi_range1 hg hm ha hs).imp fun σ H R ⟨α, ρ, h, s, h', hσ, hr, e, k⟩ => by
  obtain ⟨xs, h1, e1, e⟩ := bnd_inv e
  split at e
  · rename_i j
    split at e
    · rename_i hj
      cases e
      refine ⟨α, ρ, h, _, _, hσ, hr, e1, fun α1 H1 vs ev1 hr1 rv => ?_⟩
      obtain ⟨v, r, rfl, rv, rr⟩ := rv
      cases (show r = [] from rr)
      cases (show v = .int j from rv)
      refine ⟨j, rfl, by omega, by omega, k α1 H1 _ ev1 hr1 ?_⟩
      have := wk_range (K := X.K) (α := α1) (H := H1) (lo := 0) (n := j.toNat)
      simp only [Int.zero_add] at this
      exact this
    · cases e
  · cases e
def mFun (n k : Nat) (b : FS) : FF := fun ds h => if ds.length = n then bnd (b (ds.map some ++ List.replicate k none) h) fun o h1 => match o with
  | .rt d => some (d, h1)
  | .nx _ => some (.non, h1)
  | _ => none else none
theorem REnv.start {K : PySem.W.Frag} {α : Pl} {H : Hp} : ∀ {ds : List M} {vs : List V} {k : Nat}, RepAs K α H ds vs → REnv K α H (ds.map some ++ List.replicate k none) (vs.map some ++ List.replicate k none)
  | [], vs, k, h => by
    cases (show vs = [] from h)
    refine ⟨by simp, fun i m hi => ?_⟩
    simp [List.getElem?_replicate] at hi
  | d :: ds, vs, k, ⟨v, r, e, h1, h2⟩ => by
    subst e
    obtain ⟨q1, q2⟩ := REnv.start (k := k) h2
    refine ⟨by simpa using q1, fun i m hi => ?_⟩
    cases i with
    | zero => simp at hi; subst hi; exact ⟨v, by simp, h1⟩
    | succ i => simpa using q2 i m (by simpa using hi)
end
section
variable {P : Program} {w : World} {K : PySem.W.Frag} {mg : Str → Option Value} {base : Heap}
theorem Fun.okM {x qual : Str} {st : Stmt} {f : Addr} {fd : FuncData} {N ps : List Str} {k n : Nat} {b : FS} (F : Fun K x qual st f fd) (S : FnScope N ps (defScope st)) (hn : N.length = ps.length + n)
    (hb : ∀ (cdv : Value) (A : Around) (outer : List Env) (s : Shared) (H : Hp) (E : XK), Room k (A.deeper (envOfC qual (defScope st) s.heap.objs.size f cdv)) →
      PSs (cxOf CX0 P w K mg base N qual (defScope st) f cdv A outer s H E).nox (defBody st) (sM (cxOf CX0 P w K mg base N qual (defScope st) f cdv A outer s H E).nox.K b)) : FnOk P w K mg base CX0 (k + 1) f fd ps (spM K (mFun ps.length n b)) := by
  refine F.ok S (fun vs H Q E q => ?_) (fun cdv A outer s H vs Q E hr q => ⟨sM K b, hb cdv A outer s H E hr, ?_⟩)
  · obtain ⟨α, h, ds, d, h', rs, hr, e, _⟩ := q
    unfold mFun at e
    split at e
    · rename_i hl
      rw [← rs.length]; exact hl
    · cases e
  · obtain ⟨α, h, ds, d, h', rs, hr, e, k⟩ := q
    unfold mFun at e
    split at e
    · rename_i hl
      obtain ⟨o, h1, e1, e⟩ := bnd_inv e
      have ek : N.length - vs.length = n := by rw [← rs.length, hl, hn]; omega
      refine ⟨α, ds.map some ++ List.replicate n none, h, o, h1, ?_, hr, e1, fun α' H' ev hr' => ?_⟩
      · unfold start
        rw [ek]
        exact REnv.start rs
      · cases o with
        | nx ρ => cases e; exact fun σ _ => k α' H' .non ev hr' rfl
        | rt d => cases e; exact fun v rv => k α' H' v ev hr' rv
        | bk ρ => cases e
        | ct ρ => cases e
    · cases e
end
section
open Classical
mutual
/-- a thing with each place looked up by f -/
def resB (f : Nat → Option M) : M → Option M
  | .ref k => f k
  | .tup xs => (resBs f xs).map .tup
  | .lst xs => (resBs f xs).map .lst
  | .dct ks xs => (resBs f xs).map (.dct ks)
  | m => some m
def resBs (f : Nat → Option M) : List M → Option (List M)
  | [] => some []
  | x :: xs => (resB f x).bind fun y => (resBs f xs).map (y :: ·)
end
def lookR (n : Nat) (h : HpM) : Nat → Nat → Option M
  | 0, k => if k < n then some (.ref k) else none
  | q + 1, k => if k < n then some (.ref k) else match h[k]? with
    | some (.lst xs) => (resBs (lookR n h q) xs).map .lst
    | some (.dct kvs) => (resBs (lookR n h q) (kvs.map (·.2))).map (.dct (kvs.map (·.1)))
    | none => none
def resO (f : Nat → Option M) : MO → Option MO
  | .lst xs => (resBs f xs).map .lst
  | .dct kvs => (resBs f (kvs.map (·.2))).map fun ys => .dct ((kvs.map (·.1)).zip ys)
def resOs (f : Nat → Option M) : List MO → Option (List MO)
  | [] => some []
  | o :: os => (resO f o).bind fun p => (resOs f os).map (p :: ·)
def shut (n : Nat) (d : M) (h : HpM) : Option (M × HpM) := if h.length = n then some (d, h) else (resB (lookR n h 20) d).bind fun d' => (resOs (lookR n h 20) (h.take n)).map fun h' => (d', h')
def mSeal (f : FF) : FF := fun ds h => bnd (f ds h) fun d h1 => shut h.length d h1
end
mutual
theorem resB_rep {K : PySem.W.Frag} {α α' : Pl} {H : Hp} {f : Nat → Option M} (hn : ∀ b, α.no b → α'.no b) (hf : ∀ k m v, f k = some m → RepA K α H (.ref k) v → RepA K α' H m v) : ∀ {m m' : M} {v : V}, resB f m = some m' → RepA K α H m v → RepA K α' H m' v
  | .non, _, _, e, h => by cases e; exact h
  | .bl _, _, _, e, h => by cases e; exact h
  | .int _, _, _, e, h => by cases e; exact h
  | .str _, _, _, e, h => by cases e; exact h
  | .ty _, _, _, e, h => by cases e; exact h
  | .scr _, _, _, e, h => by
    cases e
    obtain ⟨a, e1, t⟩ := h
    exact ⟨a, e1, t.elim (fun ⟨q, n⟩ => .inl ⟨q, hn _ n⟩) .inr⟩
  | .tup xs, _, _, e, h => by
    obtain ⟨ys, e1, e2⟩ := Option.map_eq_some_iff.mp e
    subst e2
    obtain ⟨a, vs, e3, t, r⟩ := h
    exact ⟨a, vs, e3, t.elim (fun ⟨q, n⟩ => .inl ⟨q, hn _ n⟩) .inr, resBs_rep hn hf e1 r⟩
  | .lst xs, _, _, e, h => by
    obtain ⟨ys, e1, e2⟩ := Option.map_eq_some_iff.mp e
    subst e2
    obtain ⟨a, vs, e3, n, t, r⟩ := h
    exact ⟨a, vs, e3, hn _ n, t, resBs_rep hn hf e1 r⟩
  | .dct ks xs, _, _, e, h => by
    obtain ⟨ys, e1, e2⟩ := Option.map_eq_some_iff.mp e
    subst e2
    obtain ⟨a, vs, e3, n, t, ek, r⟩ := h
    exact ⟨a, vs, e3, hn _ n, t, ek, resBs_rep hn hf e1 r⟩
  | .ref k, _, _, e, h => hf k _ _ e h
theorem resBs_rep {K : PySem.W.Frag} {α α' : Pl} {H : Hp} {f : Nat → Option M} (hn : ∀ b, α.no b → α'.no b) (hf : ∀ k m v, f k = some m → RepA K α H (.ref k) v → RepA K α' H m v) : ∀ {m m' : List M} {v : List V}, resBs f m = some m' → RepAs K α H m v → RepAs K α' H m' v
  | [], _, _, e, h => by cases e; exact h
  | x :: xs, _, _, e, h => by
    obtain ⟨y, e1, e2⟩ := Option.bind_eq_some_iff.mp e
    obtain ⟨ys, e3, e4⟩ := Option.map_eq_some_iff.mp e2
    subst e4
    obtain ⟨v, r, rfl, h1, h2⟩ := h
    exact ⟨v, r, rfl, resB_rep hn hf e1 h1, resBs_rep hn hf e3 h2⟩
end
theorem lookR_rep {K : PySem.W.Frag} {α : Pl} {h : HpM} {H : Hp} {n : Nat} (hr : Rl K α h H) : ∀ (q k : Nat) (m : M) (v : V), lookR n h q k = some m → RepA K α H (.ref k) v → RepA K ⟨α.a.take n, α.g⟩ H m v
  | q, k, m, v, e, ⟨a, ha, e2⟩ => by
    have hn : ∀ b, α.no b → Pl.no ⟨α.a.take n, α.g⟩ b := fun b z => ⟨fun hm => z.1 (List.mem_of_mem_take hm), z.2⟩
    by_cases hk : k < n
    · have em : m = .ref k := by
        cases q <;> (unfold lookR at e; rw [if_pos hk] at e; exact (Option.some.inj e).symm)
      subst em
      exact ⟨a, by show (α.a.take n)[k]? = some a; rw [List.getElem?_take_of_lt hk]; exact ha, e2⟩
    · cases q with
      | zero => unfold lookR at e; rw [if_neg hk] at e; cases e
      | succ q =>
        have hna : Pl.no ⟨α.a.take n, α.g⟩ a := ⟨fun hm => by
          obtain ⟨j, hj⟩ := List.getElem?_of_mem hm
          have hjl : j < (α.a.take n).length := (List.getElem?_eq_some_iff.mp hj).1
          have hjn : j < n := by rw [List.length_take] at hjl; omega
          have hj' : α.a[j]? = some a := by rw [List.getElem?_take_of_lt hjn] at hj; exact hj
          have e1 := List.getElem?_eq_some_iff.mp hj'
          have e2 := List.getElem?_eq_some_iff.mp ha
          have := (List.getElem_inj hr.nd).mp (e1.2.trans e2.2.symm)
          omega, hr.ap a (List.mem_of_getElem? ha)⟩
        unfold lookR at e
        rw [if_neg hk] at e
        split at e
        · rename_i xs hx
          obtain ⟨ys, e3, e4⟩ := Option.map_eq_some_iff.mp e
          subst e4
          obtain ⟨vs, hv, rs⟩ := hr.obj k a _ ha hx
          exact ⟨a, vs, e2, hna, hv, resBs_rep hn (fun k m v => lookR_rep hr q k m v) e3 rs⟩
        · rename_i kvs hx
          obtain ⟨ys, e3, e4⟩ := Option.map_eq_some_iff.mp e
          subst e4
          obtain ⟨ws, hv, ek, rs⟩ := hr.obj k a _ ha hx
          exact ⟨a, ws, e2, hna, hv, ek, resBs_rep hn (fun k m v => lookR_rep hr q k m v) e3 rs⟩
        · cases e
theorem resBs_len {f : Nat → Option M} : ∀ {m m' : List M}, resBs f m = some m' → m'.length = m.length
  | [], _, e => by cases e; rfl
  | x :: xs, _, e => by
    obtain ⟨y, e1, e2⟩ := Option.bind_eq_some_iff.mp e
    obtain ⟨ys, e3, e4⟩ := Option.map_eq_some_iff.mp e2
    subst e4
    simp [resBs_len e3]
theorem resOs_get {f : Nat → Option M} : ∀ {os os' : List MO} {k : Nat} {o' : MO}, resOs f os = some os' → os'[k]? = some o' → ∃ o, os[k]? = some o ∧ resO f o = some o'
  | [], _, _, _, e, h => by cases e; simp at h
  | o :: os, _, k, o', e, h => by
    obtain ⟨y, e1, e2⟩ := Option.bind_eq_some_iff.mp e
    obtain ⟨ys, e3, e4⟩ := Option.map_eq_some_iff.mp e2
    subst e4
    cases k with
    | zero => simp at h; subst h; exact ⟨o, rfl, e1⟩
    | succ k => simpa using resOs_get (k := k) e3 (by simpa using h)
theorem resOs_len {f : Nat → Option M} : ∀ {os os' : List MO}, resOs f os = some os' → os'.length = os.length
  | [], _, e => by cases e; rfl
  | o :: os, _, e => by
    obtain ⟨y, e1, e2⟩ := Option.bind_eq_some_iff.mp e
    obtain ⟨ys, e3, e4⟩ := Option.map_eq_some_iff.mp e2
    subst e4
    simp [resOs_len e3]
theorem shut_ok {K : PySem.W.Frag} {α : Pl} {h h' : HpM} {H : Hp} {n : Nat} {d d' : M} {v : V} (hr : Rl K α h H) (hn : n ≤ h.length) (e : shut n d h = some (d', h')) (rv : RepA K α H d v) : Rl K ⟨α.a.take n, α.g⟩ h' H ∧ RepA K ⟨α.a.take n, α.g⟩ H d' v := by
  unfold shut at e
  split at e
  · rename_i hl
    cases e
    have ea : (⟨α.a.take n, α.g⟩ : Pl) = α := by
      have : α.a.take n = α.a := List.take_of_length_le (by rw [hr.len]; omega)
      rw [this]
    rw [ea]
    exact ⟨hr, rv⟩
  · obtain ⟨d1, e1, e2⟩ := Option.bind_eq_some_iff.mp e
    obtain ⟨h1, e3, e4⟩ := Option.map_eq_some_iff.mp e2
    cases e4
    have hno : ∀ b, α.no b → Pl.no ⟨α.a.take n, α.g⟩ b := fun b z => ⟨fun hm => z.1 (List.mem_of_mem_take hm), z.2⟩
    have hf := fun k m v => lookR_rep (n := n) hr 20 k m v
    refine ⟨⟨?_, ?_, fun b hb => hr.ap b (List.mem_of_mem_take hb), hr.hid, fun k a o hk ho => ?_⟩, resB_rep hno hf e1 rv⟩
    · rw [resOs_len e3]; simp [hr.len]
    · exact hr.nd.sublist (List.take_sublist _ _)
    · obtain ⟨o0, h0, eo⟩ := resOs_get e3 ho
      have hkn : k < n := by
        have := (List.getElem?_eq_some_iff.mp h0).1
        rw [List.length_take] at this; omega
      have hk' : α.a[k]? = some a := by
        have : (α.a.take n)[k]? = some a := hk
        rw [List.getElem?_take_of_lt hkn] at this; exact this
      have h0' : h[k]? = some o0 := by rw [List.getElem?_take_of_lt hkn] at h0; exact h0
      have q := hr.obj k a o0 hk' h0'
      cases o0 with
      | lst xs =>
        obtain ⟨ys, e5, e6⟩ := Option.map_eq_some_iff.mp eo
        subst e6
        obtain ⟨vs, hv, rs⟩ := q
        exact ⟨vs, hv, resBs_rep hno hf e5 rs⟩
      | dct kvs =>
        obtain ⟨ys, e5, e6⟩ := Option.map_eq_some_iff.mp eo
        subst e6
        obtain ⟨ws, hv, ek, rs⟩ := q
        have hl : (kvs.map (·.1)).length = ys.length := by rw [resBs_len e5]; simp
        refine ⟨ws, hv, ?_, ?_⟩
        · rw [ek, List.map_fst_zip (by omega)]
        · rw [List.map_snd_zip (by omega)]
          exact resBs_rep hno hf e5 rs
theorem spM_seal {K : PySem.W.Frag} {f : FF} {vs : List V} {H : Hp} {Q : VK} {E : XK} (q : spM K (mSeal f) vs H Q E) : spM K f vs H Q E := by
  obtain ⟨α, h, ds, d, h', rs, hr, e, k⟩ := q
  obtain ⟨d1, h1, e1, e⟩ := bnd_inv e
  refine ⟨α, h, ds, d1, h1, rs, hr, e1, fun α' H' v ev hr' rv => ?_⟩
  have hle : h.length ≤ h1.length := by
    obtain ⟨_, β, eb, _⟩ := ev.pre
    rw [← hr.len, ← hr'.len, eb]; simp
  obtain ⟨hr2, rv2⟩ := shut_ok hr' hle e rv
  have ea : (⟨α'.a.take h.length, α'.g⟩ : Pl) = α := by
    obtain ⟨eg, β, eb, _⟩ := ev.pre
    rw [eb, ← hr.len, List.take_left', eg]
    rfl
  rw [ea] at hr2 rv2
  exact k α H' v ⟨⟨rfl, [], by simp, by simp⟩, ev.keep, ev.dom⟩ hr2 rv2
end L2
set_option Elab.async false
set_option linter.all false
set_option maxRecDepth 100000
namespace L2
open PySem PySem.Spec PyProof.Rows
def seqL (h : HpM) : M → Option (List M)
  | .lst xs => some xs
  | .ref k => (match h[k]? with | some (.lst xs) => some xs | _ => none)
  | _ => none
theorem seqL_rep {K : PySem.W.Frag} {α : Pl} {h : HpM} {H : Hp} {m : M} {v : V} {xs : List M} (hr : Rl K α h H) (rm : RepA K α H m v) (e : seqL h m = some xs) : ∃ a vs, v = .ref a ∧ H a = some (.lst vs) ∧ RepAs K α H xs vs := by
  unfold seqL at e
  split at e
  · cases e
    obtain ⟨a, vs, e1, n, ha, rs⟩ := rm
    exact ⟨a, vs, e1, ha, rs⟩
  · split at e
    · rename_i hk
      cases e
      obtain ⟨a, ha, e1⟩ := rm
      obtain ⟨vs, hv, rs⟩ := hr.obj _ a _ ha hk
      exact ⟨a, vs, e1, hv, rs⟩
    · cases e
  · cases e
def seqR (h : HpM) : M → Option (List M)
  | .scr ns => some (ns.map M.int)
  | m => seqL h m
theorem seqR_rep {K : PySem.W.Frag} {α : Pl} {h : HpM} {H : Hp} {m : M} {v : V} {xs : List M} (hr : Rl K α h H) (rm : RepA K α H m v) (e : seqR h m = some xs) : ∃ a vs, v = .ref a ∧ SqL K H a vs ∧ RepAs K α H xs vs := by
  unfold seqR at e
  split at e
  · cases e
    obtain ⟨a, e1, t⟩ := rm
    exact ⟨a, _, e1, t.sq, RepAs.ints⟩
  · obtain ⟨a, vs, e1, ha, rs⟩ := seqL_rep hr rm e
    exact ⟨a, vs, e1, .of ha, rs⟩
def cutM (xs : List M) (lo hi : Option Int) : List M := (xs.drop (HT.sIx xs.length 0 lo)).take (HT.sIx xs.length xs.length hi - HT.sIx xs.length 0 lo)
theorem RepAs.cut {K : PySem.W.Frag} {α : Pl} {H : Hp} {xs : List M} {vs : List V} {lo hi : Option Int} (r : RepAs K α H xs vs) : RepAs K α H (cutM xs lo hi) (cutV vs lo hi) := by
  unfold cutM cutV
  rw [← r.length]
  exact (r.drop _).take _
theorem laidL {K : PySem.W.Frag} {α : Pl} {h : HpM} {H : Hp} {p : Addr} {xs : List M} {vs : List V} (hr : Rl K α h H) (hp : H p = none) (rs : RepAs K α H xs vs) : RepA K α (upd H p (.lst vs)) (.lst xs) (.ref p) :=
  ⟨p, vs, rfl, hr.new hp, upd_same, rs.ev (.same (same_new hp _))⟩
theorem laidT {K : PySem.W.Frag} {α : Pl} {h : HpM} {H : Hp} {p : Addr} {xs : List M} {vs : List V} (hr : Rl K α h H) (hp : H p = none) (rs : RepAs K α H xs vs) : RepA K α (upd H p (.tup vs)) (.tup xs) (.ref p) :=
  ⟨p, vs, rfl, .inl ⟨.inl upd_same, hr.new hp⟩, rs.ev (.same (same_new hp _))⟩
section
variable {X : Cx} {K : PySem.W.Frag}
def rCatK (K : PySem.W.Frag) : R2 := fun x y H Q => ∃ (a b : Addr) (xs ys : List V), x = .ref a ∧ y = .ref b ∧ SqT K H a xs ∧ SqT K H b ys ∧ xs.length + ys.length ≤ sizeLine ∧
  (xs = [] → Q (.ref b) H) ∧ (xs ≠ [] → ys = [] → Q (.ref a) H) ∧ (xs ≠ [] → ys ≠ [] → ∀ p, H p = none → Q (.ref p) (upd H p (.tup (xs ++ ys))))
theorem op_catK : OpR X (binaryOp .Add) (rCatK X.K) := by
  intro pins s σ H x y v u Q I rx ry h
  obtain ⟨a, b, xs, ys, rfl, rfl, ha, hb, hz, q0, q1, q2⟩ := h
  by_cases hx : xs = []
  · subst hx
    cases rx
    cases ry
    obtain ⟨its, r1, p1, _⟩ := I.tuple ha
    obtain ⟨its2, r2, p2, _⟩ := I.tuple hb
    cases r1
    obtain ⟨⟨cls, dd, data, sl⟩, ho, hc, n, hd⟩ := id p1
    obtain ⟨⟨cls2, dd2, data2, sl2⟩, ho2, hc2, n2, hd2⟩ := id p2
    simp only at hc hd hc2 hd2
    subst hc hd hc2 hd2
    refine concat_meets ⟨_, ho, rfl⟩ ⟨_, ho2, rfl⟩ noFill_tuple_add seq_tuple_add PySem.F.slot_tuple_add PySem.F.entry_tuple_add (PySem.F.args_tuple_add_2 _ _)
      (tuple_addW0 a b _ _ n n2 dd dd2 sl sl2 (by simp)) ⟨ho, ho2, ?_⟩
    exact ⟨.ref b, H, I, rfl, q0 rfl⟩
  · exact op_catT pins s σ H _ _ v u Q I rx ry ⟨a, b, xs, ys, rfl, rfl, ha, hb, hx, hz, fun e => q1 hx e, fun e => q2 hx e⟩
def opAdd (x y : M) (h : HpM) : Option M := match x, y with
  | .int i, .int j => some (.int (i + j))
  | .str a, .str b => if a.length + b.length ≤ 16777216 then some (.str (a ++ b)) else none
  | .tup xs, .tup ys => if xs.length + ys.length ≤ 16777216 then some (.tup (xs ++ ys)) else none
  | x, y => (seqL h x).bind fun xs => (seqL h y).bind fun ys => if xs.length + ys.length ≤ 16777216 then some (.lst (xs ++ ys)) else none
def rAddM (K : PySem.W.Frag) : R2 := fun x y H Q => rI0 (fun i j => .int (i + j)) x y H Q ∨ (∃ i j, x = .str i ∧ y = .str j ∧ i.length + j.length ≤ sizeLine ∧ Q (.str (i ++ j)) H) ∨ rCat x y H Q ∨ rCatK K x y H Q
theorem op_addM : OpR X (binaryOp .Add) (rAddM X.K) := by
  intro pins s σ H x y v u Q I rx ry h
  rcases h with h | h | h | h
  · exact op_add pins s σ H x y v u Q I rx ry h
  · exact op_add_str pins s σ H x y v u Q I rx ry h
  · exact op_cat pins s σ H x y v u Q I rx ry h
  · exact op_catK pins s σ H x y v u Q I rx ry h
theorem fm_add : OpM K (rAddM K) opAdd := by
  intro α h H x y d u v Q hr rx ry e k
  unfold opAdd at e
  split at e
  · cases e
    exact .inl ⟨_, _, rx, ry, k H _ (Same.refl _) rfl⟩
  · split at e
    · rename_i hl
      cases e
      exact .inr (.inl ⟨_, _, rx, ry, by rw [sizeLine_eq]; exact hl, k H _ (Same.refl _) rfl⟩)
    · cases e
  · split at e
    · rename_i xs ys hl
      cases e
      obtain ⟨a, vs, rfl, ta, rs⟩ := id rx
      obtain ⟨b, ws, rfl, tb, rt⟩ := id ry
      refine .inr (.inr (.inr ⟨a, b, vs, ws, rfl, rfl, ta.sq, tb.sq, by rw [← rs.length, ← rt.length, sizeLine_eq]; exact hl, fun e => ?_, fun _ e => ?_, fun _ _ p hp => ?_⟩))
      · have : xs = [] := by have := rs.length; rw [e] at this; simpa using this
        subst this
        exact k H _ (Same.refl _) ry
      · have : ys = [] := by have := rt.length; rw [e] at this; simpa using this
        subst this
        rw [List.append_nil] at k
        exact k H _ (Same.refl _) rx
      · exact k _ _ (same_new hp _) (laidT hr hp (rs.app rt))
    · cases e
  · obtain ⟨xs, e1, e⟩ := Option.bind_eq_some_iff.mp e
    obtain ⟨ys, e2, e⟩ := Option.bind_eq_some_iff.mp e
    split at e
    · rename_i hl
      cases e
      obtain ⟨a, vs, rfl, ta, rs⟩ := seqL_rep hr rx e1
      obtain ⟨b, ws, rfl, tb, rt⟩ := seqL_rep hr ry e2
      exact .inr (.inr (.inl ⟨a, b, vs, ws, rfl, rfl, ta, tb, by rw [← rs.length, ← rt.length, sizeLine_eq]; exact hl, fun p hp => k _ _ (same_new hp _) (laidL hr hp (rs.app rt))⟩))
    · cases e
def onI (f : Int → Int → Option M) (x y : M) (_ : HpM) : Option M := match x, y with | .int i, .int j => f i j | _, _ => none
def opSub : M → M → HpM → Option M := onI fun i j => some (.int (i - j))
def opMod : M → M → HpM → Option M := onI fun i j => if 0 < j then some (.int (i % j)) else none
def opDiv : M → M → HpM → Option M := onI fun i j => if 0 < j ∧ j < 1073741824 then some (.int (i / j)) else none
def opPow : M → M → HpM → Option M := onI fun i j => if 0 ≤ j ∧ j ≤ 1000000 ∧ i.natAbs < 18446744073709551616 then some (.int (i ^ j.toNat)) else none
theorem onI_inv {f : Int → Int → Option M} {x y d : M} {h : HpM} (e : onI f x y h = some d) : ∃ i j, x = .int i ∧ y = .int j ∧ f i j = some d := by
  unfold onI at e
  split at e
  · exact ⟨_, _, rfl, rfl, e⟩
  · cases e
theorem fm_sub : OpM K (rI0 fun i j => .int (i - j)) opSub := by
  intro α h H x y d u v Q hr rx ry e k
  obtain ⟨i, j, rfl, rfl, e'⟩ := onI_inv e
  clear e
  have e := e'
  clear e'
  cases e
  exact ⟨i, j, rx, ry, k H _ (Same.refl _) rfl⟩
theorem fm_mod : OpM K (rI (fun _ j => 0 < j) fun i j => .int (i % j)) opMod := by
  intro α h H x y d u v Q hr rx ry e k
  obtain ⟨i, j, rfl, rfl, e'⟩ := onI_inv e
  clear e
  have e := e'
  clear e'
  split at e
  · rename_i hj
    cases e
    exact ⟨i, j, rx, ry, hj, k H _ (Same.refl _) rfl⟩
  · cases e
theorem fm_div : OpM K (rI CDiv fun i j => .int (i / j)) opDiv := by
  intro α h H x y d u v Q hr rx ry e k
  obtain ⟨i, j, rfl, rfl, e'⟩ := onI_inv e
  clear e
  have e := e'
  clear e'
  split at e
  · rename_i hj
    cases e
    exact ⟨i, j, rx, ry, hj, k H _ (Same.refl _) rfl⟩
  · cases e
theorem fm_pow : OpM K (rI CPow fun i j => .int (i ^ j.toNat)) opPow := by
  intro α h H x y d u v Q hr rx ry e k
  obtain ⟨i, j, rfl, rfl, e'⟩ := onI_inv e
  clear e
  have e := e'
  clear e'
  split at e
  · rename_i hj
    cases e
    exact ⟨i, j, rx, ry, ⟨hj.1, hj.2.1, by have := hj.2.2; omega⟩, k H _ (Same.refl _) rfl⟩
  · cases e
def reps (n : Nat) (xs : List M) : List M := (List.replicate n xs).flatten
def opMul (x y : M) (h : HpM) : Option M := match x, y with
  | .int i, .int j => if (-18446744073709551616 < i ∧ i < 18446744073709551616) ∨ (-18446744073709551616 < j ∧ j < 18446744073709551616) then some (.int (i * j)) else none
  | .str z, .int j => if z.length ≤ 16 ∧ 0 ≤ j ∧ j ≤ 1000 then some (.str (Txt.mul z j)) else none
  | x, .int j => (seqL h x).bind fun xs => if -9223372036854775808 ≤ j ∧ j < 9223372036854775808 ∧ xs.length * j.toNat ≤ 16777216 then some (.lst (reps j.toNat xs)) else none
  | _, _ => none
def rMulM : R2 := fun x y H Q => rI CMul (fun i j => .int (i * j)) x y H Q ∨ (∃ i j, x = .str i ∧ y = .int j ∧ (i.length ≤ 16 ∧ 0 ≤ j ∧ j ≤ 1000) ∧ Q (.str (Txt.mul i j)) H) ∨ rRep x y H Q
theorem op_mulM : OpR X (binaryOp .Mult) rMulM := by
  intro pins s σ H x y v u Q I rx ry h
  rcases h with h | h | h
  · exact op_mul pins s σ H x y v u Q I rx ry h
  · exact op_mul_str pins s σ H x y v u Q I rx ry h
  · exact op_rep pins s σ H x y v u Q I rx ry h
theorem RepAs.reps {α : Pl} {H : Hp} {xs : List M} {vs : List V} (r : RepAs K α H xs vs) : ∀ n : Nat, RepAs K α H (L2.reps n xs) (List.replicate n vs).flatten
  | 0 => rfl
  | n + 1 => by
    unfold L2.reps
    rw [List.replicate_succ, List.replicate_succ, List.flatten_cons, List.flatten_cons]
    exact r.app (RepAs.reps r n)
theorem fm_mul : OpM K rMulM opMul := by
  intro α h H x y d u v Q hr rx ry e k
  unfold opMul at e
  split at e
  · split at e
    · rename_i hl
      cases e
      refine .inl ⟨_, _, rx, ry, ?_, k H _ (Same.refl _) rfl⟩
      unfold CMul
      omega
    · cases e
  · split at e
    · rename_i hl
      cases e
      exact .inr (.inl ⟨_, _, rx, ry, hl, k H _ (Same.refl _) rfl⟩)
    · cases e
  · obtain ⟨xs, e1, e⟩ := Option.bind_eq_some_iff.mp e
    split at e
    · rename_i hl
      cases e
      obtain ⟨a, vs, rfl, ta, rs⟩ := seqL_rep hr rx e1
      exact .inr (.inr ⟨a, _, vs, rfl, ry, ta, by omega, by omega, by rw [← rs.length, sizeLine_eq]; omega, fun p hp => k _ _ (same_new hp _) (laidL hr hp (rs.reps _))⟩)
    · cases e
  · cases e
def onO (f : Int → Int → Bool) (g : List Nat → List Nat → Bool) (x y : M) (_ : HpM) : Option M := match x, y with
  | .int i, .int j => some (.bl (f i j))
  | .str a, .str b => some (.bl (g a.cps.toList b.cps.toList))
  | _, _ => none
def opLt := onO (fun i j => decide (i < j)) fun a b => decide (a < b)
def opLe := onO (fun i j => decide (i ≤ j)) fun a b => !decide (b < a)
def opGt := onO (fun i j => decide (j < i)) fun a b => decide (b < a)
def opGe := onO (fun i j => decide (j ≤ i)) fun a b => !decide (a < b)
theorem onO_inv {f : Int → Int → Bool} {g : List Nat → List Nat → Bool} {x y d : M} {h : HpM} (e : onO f g x y h = some d) : (∃ i j, x = .int i ∧ y = .int j ∧ d = .bl (f i j)) ∨ ∃ a b, x = .str a ∧ y = .str b ∧ d = .bl (g a.cps.toList b.cps.toList) := by
  unfold onO at e
  split at e
  · cases e; exact .inl ⟨_, _, rfl, rfl, rfl⟩
  · cases e; exact .inr ⟨_, _, rfl, rfl, rfl⟩
  · cases e
theorem fm_lt : OpM K rLtA opLt := by
  intro α h H x y d u v Q hr rx ry e k
  rcases onO_inv e with ⟨i, j, rfl, rfl, rfl⟩ | ⟨i, j, rfl, rfl, rfl⟩
  · exact .inl ⟨i, j, rx, ry, k H _ (Same.refl _) rfl⟩
  · exact .inr ⟨i, j, rx, ry, k H _ (Same.refl _) rfl⟩
theorem fm_le : OpM K rLeA opLe := by
  intro α h H x y d u v Q hr rx ry e k
  rcases onO_inv e with ⟨i, j, rfl, rfl, rfl⟩ | ⟨i, j, rfl, rfl, rfl⟩
  · exact .inl ⟨i, j, rx, ry, k H _ (Same.refl _) rfl⟩
  · exact .inr ⟨i, j, rx, ry, k H _ (Same.refl _) rfl⟩
theorem fm_gt : OpM K rGtA opGt := by
  intro α h H x y d u v Q hr rx ry e k
  rcases onO_inv e with ⟨i, j, rfl, rfl, rfl⟩ | ⟨i, j, rfl, rfl, rfl⟩
  · exact .inl ⟨i, j, rx, ry, k H _ (Same.refl _) rfl⟩
  · exact .inr ⟨i, j, rx, ry, k H _ (Same.refl _) rfl⟩
theorem fm_ge : OpM K rGeA opGe := by
  intro α h H x y d u v Q hr rx ry e k
  rcases onO_inv e with ⟨i, j, rfl, rfl, rfl⟩ | ⟨i, j, rfl, rfl, rfl⟩
  · exact .inl ⟨i, j, rx, ry, k H _ (Same.refl _) rfl⟩
  · exact .inr ⟨i, j, rx, ry, k H _ (Same.refl _) rfl⟩
def isN : M → Bool
  | .non => true
  | _ => false
theorem isN_rep {α : Pl} {H : Hp} {m : M} {v : V} (r : RepA K α H m v) : decide (v = .non) = isN m := by
  cases m with
  | non => cases (show v = .non from r); rfl
  | bl b => cases (show v = .bl b from r); rfl
  | int b => cases (show v = .int b from r); rfl
  | str b => cases (show v = .str b from r); rfl
  | ty b => cases (show v = .ty b from r); rfl
  | tup xs => obtain ⟨a, vs, e, _⟩ := r; subst e; rfl
  | lst xs => obtain ⟨a, vs, e, _⟩ := r; subst e; rfl
  | dct xs => obtain ⟨a, vs, e, _⟩ := r; subst e; rfl
  | ref k => obtain ⟨a, _, e⟩ := r; subst e; rfl
  | scr ns => obtain ⟨a, e, _⟩ := r; subst e; rfl
def opIs (x y : M) (_ : HpM) : Option M := match y with
  | .non => some (.bl (isN x))
  | .bl j => (match x with | .bl i => some (.bl (i == j)) | _ => none)
  | _ => none
def opIsNot (x y : M) (_ : HpM) : Option M := match y with
  | .non => some (.bl (!isN x))
  | .bl j => (match x with | .bl i => some (.bl (i != j)) | _ => none)
  | _ => none
theorem fm_is : OpM K rIsA opIs := by
  intro α h H x y d u v Q hr rx ry e k
  unfold opIs at e
  split at e
  · cases e
    exact .inl ⟨ry, by rw [isN_rep rx]; exact k H _ (Same.refl _) rfl⟩
  · split at e
    · cases e
      exact .inr ⟨_, _, rx, ry, k H _ (Same.refl _) rfl⟩
    · cases e
  · cases e
theorem fm_isNot : OpM K rIsNotA opIsNot := by
  intro α h H x y d u v Q hr rx ry e k
  unfold opIsNot at e
  split at e
  · cases e
    exact .inl ⟨ry, by rw [isN_rep rx]; exact k H _ (Same.refl _) rfl⟩
  · split at e
    · cases e
      exact .inr ⟨_, _, rx, ry, k H _ (Same.refl _) rfl⟩
    · cases e
  · cases e
def opNeg (x : M) (_ : HpM) : Option M := match x with | .int i => some (.int (-i)) | _ => none
theorem fm_neg : UnM K (rU fun i => .int (-i)) opNeg := by
  intro α h H x d u Q hr rx e k
  unfold opNeg at e
  split at e
  · cases e
    exact ⟨_, rx, k H _ (Same.refl _) rfl⟩
  · cases e
def keyM : M → Option Key
  | .int i => some (.inl i)
  | .str z => some (.inr z)
  | _ => none
theorem keyM_rep {K : PySem.W.Frag} {α : Pl} {H : Hp} {m : M} {v : V} {k : Key} (e : keyM m = some k) (r : RepA K α H m v) : v = kV k := by
  cases m <;> cases e <;> exact r
def dctOf (h : HpM) : M → Option (List (Key × M))
  | .dct ks xs => if ks.length = xs.length then some (ks.zip xs) else none
  | .ref k => (match h[k]? with | some (.dct kvs) => some kvs | _ => none)
  | _ => none
theorem dctOf_rep {K : PySem.W.Frag} {α : Pl} {h : HpM} {H : Hp} {m : M} {v : V} {kvs : List (Key × M)} (hr : Rl K α h H) (rm : RepA K α H m v) (e : dctOf h m = some kvs) : ∃ a ws, v = .ref a ∧ H a = some (.dK ws) ∧ ws.map (·.1) = kvs.map (·.1) ∧ RepAs K α H (kvs.map (·.2)) (ws.map (·.2)) := by
  unfold dctOf at e
  split at e
  · split at e
    · rename_i hl
      cases e
      obtain ⟨a, ws, e1, n, ha, ek, rs⟩ := rm
      exact ⟨a, ws, e1, ha, by rw [ek, List.map_fst_zip (by omega)], by rw [List.map_snd_zip (by omega)]; exact rs⟩
    · cases e
  · split at e
    · rename_i hk
      cases e
      obtain ⟨a, ha, e1⟩ := rm
      obtain ⟨ws, hv, ek, rs⟩ := hr.obj _ a _ ha hk
      exact ⟨a, ws, e1, hv, ek, rs⟩
    · cases e
  · cases e
def valM (kvs : List (Key × M)) (k : Key) : Option M := (kvs.find? fun kv => decide (kv.1 = k)).map (·.2)
theorem valM_rep {K : PySem.W.Frag} {α : Pl} {H : Hp} (k : Key) : ∀ {kvs : List (Key × M)} {ws : List (Key × V)}, ws.map (·.1) = kvs.map (·.1) → RepAs K α H (kvs.map (·.2)) (ws.map (·.2)) →
    (valV ws k).isSome = (valM kvs k).isSome ∧ ∀ m, valM kvs k = some m → ∃ v, valV ws k = some v ∧ RepA K α H m v
  | [], [], _, _ => ⟨rfl, fun m h => by cases h⟩
  | [], _ :: _, e, _ => by cases e
  | _ :: _, [], e, _ => by cases e
  | kv :: kvs, w :: ws, e, r => by
    obtain ⟨v, q, e1, h1, h2⟩ := r
    have e1' : w.2 :: ws.map (·.2) = v :: q := e1
    injection e1' with ev eq
    subst ev eq
    have e' : w.1 :: ws.map (·.1) = kv.1 :: kvs.map (·.1) := e
    injection e' with ek es
    obtain ⟨i1, i2⟩ := valM_rep k es h2
    by_cases hk : kv.1 = k
    · have hw : w.1 = k := ek.trans hk
      have a1 : valM (kv :: kvs) k = some kv.2 := by simp [valM, List.find?_cons, hk]
      have a2 : valV (w :: ws) k = some w.2 := valV_pos hw
      rw [a1, a2]
      exact ⟨rfl, fun m h => by cases h; exact ⟨_, rfl, h1⟩⟩
    · have hw : ¬ w.1 = k := fun z => hk (ek.symm.trans z)
      have a1 : valM (kv :: kvs) k = valM kvs k := by simp [valM, List.find?_cons, hk]
      have a2 : valV (w :: ws) k = valV ws k := valV_neg hw
      rw [a1, a2]
      exact ⟨i1, i2⟩
def ixM (x y : M) (h : HpM) : Option M := match dctOf h x with
  | some kvs => (keyM y).bind (valM kvs)
  | none => (match y with
  | .int i => (match x with
    | .tup xs => atI xs i
    | .str z => if z.length ≤ 16777216 then (atI z.cps.toList i).map fun c => .str ⟨#[c]⟩ else none
    | x => (seqR h x).bind fun xs => atI xs i)
  | _ => none)
def rIxD : R2 := fun x y H Q => ∃ a v, x = .ref a ∧ DGet H a y (some v) ∧ Q v H
theorem ix_dict (hu : X.A.units + 1 < cLine) : IxR X rIxD := by
  intro value slice pins s σ H x y v u Q I rx ry q hs
  obtain ⟨a, z, rfl, g, q⟩ := q
  cases (show v = .ref a from rx)
  have hT := dict_typeIs I g
  unfold subscriptTail
  refine wpAny_bind ?_
  rw [getitemInPython_of_ne hT.not_modules]
  refine wpAny_bind (wpAny_specialOf hT PySem.F.slot_dict_getitem.lookup ?_)
  have fin : wpAny (model X.prog X.w) X.A (subscripted slice false (.ref a) u) (fun r s₃ => wpAny (model X.prog X.w) X.A (letTemporaryGo value (.ref a) r >>= fun _ => pure r) (EP X pins σ Q) X.xe s₃) X.xe s := by
    rw [hs]
    exact wpAny_operating (wpAny_mono (d_getItem hu I g ry fun w' s3 I3 rw' => (⟨z, H, I3, rw', q⟩ : EP X pins σ Q w' s3)) (fun r s₃ h₃ => wpAny_bind (wpAny_letTemporaryGo (wpAny_pure h₃))) fun _ _ x => x)
  first
    | exact wpAny_pure (wpAny_bind fin)
    | exact wpAny_bind (wpAny_pure (wpAny_bind fin))
    | exact wpAny_bind fin
def rIxQ (K : PySem.W.Frag) : R2 := fun x y H Q => rIxD x y H Q ∨ rIx K x y H Q
theorem ix_M (hu : X.A.units + 151 < cLine) : IxR X (rIxQ X.K) := (ix_dict (by omega)).or ix_seq
theorem fm_ix : OpM K (rIxQ K) ixM := by
  intro α h H x y d u v Q hr rx ry e k
  unfold ixM at e
  split at e
  · rename_i kvs hk
    obtain ⟨key, e1, e2⟩ := Option.bind_eq_some_iff.mp e
    obtain ⟨a, ws, rfl, ha, ek, rs⟩ := dctOf_rep hr rx hk
    obtain ⟨w, hw, rw'⟩ := (valM_rep key ek rs).2 d e2
    cases (keyM_rep e1 ry)
    exact .inl ⟨a, w, rfl, by rw [← hw]; exact DGet.k ha, k H _ (Same.refl _) rw'⟩
  refine .inr ?_
  split at e
  · rename_i i
    split at e
    · obtain ⟨a, vs, rfl, t, rs⟩ := rx
      obtain ⟨w, hw, rw'⟩ := rs.at e
      exact .inr (.inl ⟨a, vs, i, w, rfl, ry, t.sq, hw, k H _ (Same.refl _) rw'⟩)
    · split at e
      · rename_i hl
        obtain ⟨c, e1, e2⟩ := Option.map_eq_some_iff.mp e
        subst e2
        exact .inr (.inr ⟨_, i, c, rx, ry, by rw [sizeLine_eq]; exact hl, e1, k H _ (Same.refl _) rfl⟩)
      · cases e
    · obtain ⟨xs, e1, e⟩ := Option.bind_eq_some_iff.mp e
      obtain ⟨a, vs, rfl, t, rs⟩ := seqR_rep hr rx e1
      obtain ⟨w, hw, rw'⟩ := rs.at e
      exact .inl ⟨a, vs, i, w, rfl, ry, t, hw, k H _ (Same.refl _) rw'⟩
  · cases e
def rSlK (K : PySem.W.Frag) : V → Option Int → Option Int → Hp → VK → Prop := fun x lo hi H Q => ∃ a xs, x = .ref a ∧ SqT K H a xs ∧ (cutV xs lo hi = xs → Q (.ref a) H) ∧ ∀ p, H p = none → Q (.ref p) (upd H p (.tup (cutV xs lo hi)))
theorem sl_tupK : SlR X (rSlK X.K) := by
  intro pins s σ H x v vl vu lo hi sl Q I rx hs pl pu h
  obtain ⟨a, xs, rfl, hx, q1, q2⟩ := h
  by_cases hw : HT.sIx xs.length 0 lo = 0 ∧ HT.sIx xs.length xs.length hi = xs.length
  · cases rx
    obtain ⟨its, r, ht, _⟩ := I.tuple hx
    have hlen : its.toArray.size = xs.length := by rw [List.size_toArray]; exact r.length.symm
    refine ⟨"tuple", _, PyProof.Rows.slot_tuple_getitem.lookup, ht.typeIs, ?_⟩
    refine whole_tuple ht hs pl pu (by rw [hlen]; exact hw) ⟨.ref a, H, I, rfl, q1 ?_⟩
    unfold cutV; rw [hw.1, hw.2]; simp
  · exact sl_tup pins s σ H _ v vl vu lo hi sl Q I rx hs pl pu ⟨a, xs, rfl, hx, hw, q2⟩
def slM (x : M) (lo hi : Option Int) (h : HpM) : Option M := match x with
  | .tup xs => some (.tup (cutM xs lo hi))
  | .str z => if z.length ≤ 16777216 then some (.str (Txt.slice z lo hi)) else none
  | x => (seqR h x).map fun xs => .lst (cutM xs lo hi)
def rSlM (K : PySem.W.Frag) : V → Option Int → Option Int → Hp → VK → Prop := fun x lo hi H Q => rSlL K x lo hi H Q ∨ rSlK K x lo hi H Q ∨ rSlS x lo hi H Q
theorem sl_M : SlR X (rSlM X.K) := sl_list.or (sl_tupK.or sl_str)
theorem fm_sl : SlM K (rSlM K) slM := by
  intro α h H x d lo hi u Q hr rx e k
  unfold slM at e
  split at e
  · cases e
    obtain ⟨a, vs, rfl, t, rs⟩ := id rx
    refine .inr (.inl ⟨a, vs, rfl, t.sq, fun e => ?_, fun p hp => k _ _ (same_new hp _) (laidT hr hp rs.cut)⟩)
    have rc := rs.cut (lo := lo) (hi := hi)
    rw [e] at rc
    exact k H _ (Same.refl _) ⟨a, vs, rfl, t, rc⟩
  · split at e
    · rename_i hl
      cases e
      exact .inr (.inr ⟨_, rx, by rw [sizeLine_eq]; exact hl, k H _ (Same.refl _) rfl⟩)
    · cases e
  · obtain ⟨xs, e1, e2⟩ := Option.map_eq_some_iff.mp e
    subst e2
    obtain ⟨a, vs, rfl, t, rs⟩ := seqR_rep hr rx e1
    exact .inl ⟨a, vs, rfl, t, fun p hp => k _ _ (same_new hp _) (laidL hr hp rs.cut)⟩
end
end L2
set_option Elab.async false
set_option linter.all false
set_option maxRecDepth 100000
namespace L2
open PySem PySem.Spec PyProof.Rows
mutual
def RepK (K : PySem.W.Frag) (H : Hp) : D → V → Prop
  | .non, v => v = .non
  | .bl b, v => v = .bl b
  | .int i, v => v = .int i
  | .str x, v => v = .str x
  | .tup ds, v => ∃ a xs, v = .ref a ∧ SqT K H a xs ∧ RepKs K H ds xs
  | .lst ds, v => ∃ a xs, v = .ref a ∧ SqL K H a xs ∧ RepKs K H ds xs
def RepKs (K : PySem.W.Frag) (H : Hp) : List D → List V → Prop
  | [], xs => xs = []
  | d :: ds, xs => ∃ x r, xs = x :: r ∧ RepK K H d x ∧ RepKs K H ds r
end
section
open PySem.SeqAt
variable {X : Cx} {pins : List (Addr × Obj)} {σ : St} {H : Hp} {s : Shared}
theorem Inv.tupK (I : Inv X pins σ H s) {a : Addr} {xs : List V} (h : SqT X.K H a xs) : ∃ its : List Value, Vals xs its ∧ s.heap.IsTuple a its.toArray := by
  obtain ⟨its, r, t, _⟩ := I.tuple h
  exact ⟨its, r, t⟩
theorem Inv.lstK (I : Inv X pins σ H s) {a : Addr} {xs : List V} (h : SqL X.K H a xs) : ∃ its : List Value, Vals xs its ∧ s.heap.IsList a its.toArray := by
  obtain ⟨its, r, t, _⟩ := I.list h
  exact ⟨its, r, t.isList⟩
theorem Inv.apartK (I : Inv X pins σ H s) {a : Addr} {xs ys : List V} (h : SqT X.K H a xs) (h' : SqL X.K H a ys) : False := by
  obtain ⟨its, r, o, e, c, _⟩ := I.tupK h
  obtain ⟨its', r', o', e', c', _⟩ := I.lstK h'
  rw [e] at e'
  cases e'
  rw [c] at c'
  exact absurd c' (by decide)
mutual
theorem RepK.inj (I : Inv X pins σ H s) : ∀ {d d' : D} {v : V}, RepK X.K H d v → RepK X.K H d' v → d = d'
  | .non, d', v, h, h' => by
    cases (show v = .non from h)
    cases d' <;> simp_all [RepK]
  | .bl b, d', v, h, h' => by
    cases (show v = .bl b from h)
    cases d' <;> simp_all [RepK]
  | .int b, d', v, h, h' => by
    cases (show v = .int b from h)
    cases d' <;> simp_all [RepK]
  | .str b, d', v, h, h' => by
    cases (show v = .str b from h)
    cases d' <;> simp_all [RepK]
  | .tup ds, d', v, h, h' => by
    obtain ⟨a, xs, rfl, ha, hs⟩ := h
    cases d' with
    | tup ds' =>
      obtain ⟨a', xs', e, ha', hs'⟩ := h'
      cases e
      cases I.tuple_inj ha ha'
      rw [RepKs.inj I hs hs']
    | lst ds' =>
      obtain ⟨a', xs', e, ha', hs'⟩ := h'
      cases e
      exact (I.apartK ha ha').elim
    | _ => cases (show V.ref a = _ from h')
  | .lst ds, d', v, h, h' => by
    obtain ⟨a, xs, rfl, ha, hs⟩ := h
    cases d' with
    | lst ds' =>
      obtain ⟨a', xs', e, ha', hs'⟩ := h'
      cases e
      cases I.list_inj ha ha'
      rw [RepKs.inj I hs hs']
    | tup ds' =>
      obtain ⟨a', xs', e, ha', hs'⟩ := h'
      cases e
      exact (I.apartK ha' ha).elim
    | _ => cases (show V.ref a = _ from h')
theorem RepKs.inj (I : Inv X pins σ H s) : ∀ {ds ds' : List D} {xs : List V}, RepKs X.K H ds xs → RepKs X.K H ds' xs → ds = ds'
  | [], ds', xs, h, h' => by
    cases (show xs = [] from h)
    cases ds' with
    | nil => rfl
    | cons d r => obtain ⟨x, r', e, _⟩ := h'; cases e
  | d :: ds, ds', xs, h, h' => by
    obtain ⟨x, r, rfl, h1, h2⟩ := h
    cases ds' with
    | nil => cases (show x :: r = [] from h')
    | cons d2 r2 =>
      obtain ⟨x', r', e, h1', h2'⟩ := h'
      cases e
      rw [RepK.inj I h1 h1', RepKs.inj I h2 h2']
end
theorem RepKs.length {K : PySem.W.Frag} {H : Hp} : ∀ {ds : List D} {xs : List V}, RepKs K H ds xs → ds.length = xs.length
  | [], xs, h => by cases (show xs = [] from h); rfl
  | d :: ds, xs, h => by
    obtain ⟨x, r, rfl, _, h2⟩ := h
    simp [RepKs.length h2]
theorem RepKs.get' {K : PySem.W.Frag} {H : Hp} : ∀ {ds : List D} {xs : List V} {j : Nat} {d : D}, RepKs K H ds xs → ds[j]? = some d → ∃ x, xs[j]? = some x ∧ RepK K H d x
  | [], xs, j, x, h, e => by simp at e
  | d :: ds, xs, 0, x, h, e => by
    obtain ⟨y, r, rfl, h1, h2⟩ := h
    simp at e; subst e
    exact ⟨y, rfl, h1⟩
  | d :: ds, xs, j + 1, x, h, e => by
    obtain ⟨y, r, rfl, h1, h2⟩ := h
    obtain ⟨d', e', h'⟩ := RepKs.get' (j := j) h2 (by simpa using e)
    exact ⟨d', by simpa using e', h'⟩
theorem seq_itemsK {A : Around} {xs ys : List V} {its its2 : List Value} {ds ds' : List D} (rv : Vals xs its) (rv2 : Vals ys its2) (hx : RepKs X.K H ds xs) (hy : RepKs X.K H ds' ys)
    (ih : ∀ (j : Nat) d d' x y u v, ds[j]? = some d → ds'[j]? = some d' → RepK X.K H d x → RepK X.K H d' y → RelV x u → RelV y v → EqAt A s u v (deq d d')) :
    ∀ j (h1 : j < its.toArray.size) (h2 : j < its2.toArray.size), EqAt A s its.toArray[j] its2.toArray[j] (deq (ds.getD j .non) (ds'.getD j .non)) := by
  intro j h1 h2
  have l1 := rv.length
  have l2 := rv2.length
  have k1 := hx.length
  have k2 := hy.length
  have h1' : j < its.length := by simpa using h1
  have h2' : j < its2.length := by simpa using h2
  have j1 : j < ds.length := by omega
  have j2 : j < ds'.length := by omega
  obtain ⟨x, ex, rx⟩ := hx.get' (j := j) (d := ds[j]) (by simp [j1])
  obtain ⟨y, ey, ry⟩ := hy.get' (j := j) (d := ds'[j]) (by simp [j2])
  obtain ⟨u, eu, ru⟩ := rv.get ex
  obtain ⟨v, ev, rv'⟩ := rv2.get ey
  have e1 : its.toArray[j] = u := by
    have : its[j]? = some its[j] := by simp [h1']
    rw [this] at eu
    simpa using Option.some.inj eu
  have e2 : its2.toArray[j] = v := by
    have : its2[j]? = some its2[j] := by simp [h2']
    rw [this] at ev
    simpa using Option.some.inj ev
  have e3 : ds.getD j .non = ds[j] := by simp [List.getD_eq_getElem?_getD, j1]
  have e4 : ds'.getD j .non = ds'[j] := by simp [List.getD_eq_getElem?_getD, j2]
  rw [e1, e2, e3, e4]
  exact ih j _ _ x y u v (by simp [j1]) (by simp [j2]) rx ry ru rv'
theorem rc_and_eqK (I : Inv X pins σ H s) : ∀ (n : Nat) (A : Around) (d d' : D) (x y : V) (u v : Value), d.deep ≤ n → A.units + n < cLine → RepK X.K H d x → RepK X.K H d' y → RelV x u → RelV y v →
    RcAt A s u v (deq d d') ∧ EqAt A s u v (deq d d') := by
  intro n
  induction n with
  | zero =>
    intro A d d' x y u v hd hu hx hy ru rv
    have hu' : A.units < cLine := by omega
    cases d with
    | tup ds => simp [D.deep] at hd
    | lst ds => simp [D.deep] at hd
    | non =>
      cases (show x = .non from hx); cases ru
      cases d' with
      | non => cases (show y = .non from hy); cases rv; simp only [deq]; exact ⟨RcAt.none_none, EqAt.same _⟩
      | bl b => cases (show y = .bl b from hy); cases rv; simp only [deq]; exact ⟨RcAt.none_bool b, EqAt.none_bool b⟩
      | int i => cases (show y = .int i from hy); obtain ⟨t, rfl⟩ := rv; simp only [deq]; exact ⟨RcAt.none_int i t, EqAt.none_int i t⟩
      | str i => cases (show y = .str i from hy); obtain ⟨t, rfl⟩ := rv; simp only [deq]; exact ⟨RcAt.none_str i t, EqAt.none_str i t⟩
      | tup ds => obtain ⟨a, xs, rfl, ha, _⟩ := hy; cases rv; obtain ⟨its, r, ht⟩ := I.tupK ha; simp only [deq]; exact ⟨RcAt.none_tuple ht hu', EqAt.none_tuple ht hu'⟩
      | lst ds => obtain ⟨a, xs, rfl, ha, _⟩ := hy; cases rv; obtain ⟨its, r, ht⟩ := I.lstK ha; simp only [deq]; exact ⟨RcAt.none_list ht hu', EqAt.none_list ht hu'⟩
    | bl a =>
      cases (show x = .bl a from hx); cases ru
      cases d' with
      | non => cases (show y = .non from hy); cases rv; simp only [deq]; exact ⟨RcAt.bool_none a, EqAt.bool_none a⟩
      | bl b => cases (show y = .bl b from hy); cases rv; simp only [deq]; exact ⟨RcAt.bool_bool a b, EqAt.bool_bool a b⟩
      | int i => cases (show y = .int i from hy); obtain ⟨t, rfl⟩ := rv; simp only [deq]; exact ⟨RcAt.bool_int a i t, EqAt.bool_int a i t⟩
      | str i => cases (show y = .str i from hy); obtain ⟨t, rfl⟩ := rv; simp only [deq]; exact ⟨RcAt.bool_str a i t, EqAt.bool_str a i t⟩
      | tup ds => obtain ⟨a', xs, rfl, ha, _⟩ := hy; cases rv; obtain ⟨its, r, ht⟩ := I.tupK ha; simp only [deq]; exact ⟨RcAt.bool_tuple a ht hu', EqAt.bool_tuple a ht hu'⟩
      | lst ds => obtain ⟨a', xs, rfl, ha, _⟩ := hy; cases rv; obtain ⟨its, r, ht⟩ := I.lstK ha; simp only [deq]; exact ⟨RcAt.bool_list a ht hu', EqAt.bool_list a ht hu'⟩
    | int a =>
      cases (show x = .int a from hx); obtain ⟨ta, rfl⟩ := ru
      cases d' with
      | non => cases (show y = .non from hy); cases rv; simp only [deq]; exact ⟨RcAt.int_none a ta, EqAt.int_none a ta⟩
      | bl b => cases (show y = .bl b from hy); cases rv; simp only [deq]; exact ⟨RcAt.int_bool a ta b, EqAt.int_bool a ta b⟩
      | int i => cases (show y = .int i from hy); obtain ⟨t, rfl⟩ := rv; simp only [deq]; exact ⟨RcAt.int_int a ta i t, EqAt.int_int a ta i t⟩
      | str i => cases (show y = .str i from hy); obtain ⟨t, rfl⟩ := rv; simp only [deq]; exact ⟨RcAt.int_str a ta i t, EqAt.int_str a ta i t⟩
      | tup ds => obtain ⟨a', xs, rfl, ha, _⟩ := hy; cases rv; obtain ⟨its, r, ht⟩ := I.tupK ha; simp only [deq]; exact ⟨RcAt.int_tuple a ta ht hu', EqAt.int_tuple a ta ht hu'⟩
      | lst ds => obtain ⟨a', xs, rfl, ha, _⟩ := hy; cases rv; obtain ⟨its, r, ht⟩ := I.lstK ha; simp only [deq]; exact ⟨RcAt.int_list a ta ht hu', EqAt.int_list a ta ht hu'⟩
    | str a =>
      cases (show x = .str a from hx); obtain ⟨ta, rfl⟩ := ru
      cases d' with
      | non => cases (show y = .non from hy); cases rv; simp only [deq]; exact ⟨RcAt.str_none a ta, EqAt.str_none a ta⟩
      | bl b => cases (show y = .bl b from hy); cases rv; simp only [deq]; exact ⟨RcAt.str_bool a ta b, EqAt.str_bool a ta b⟩
      | int i => cases (show y = .int i from hy); obtain ⟨t, rfl⟩ := rv; simp only [deq]; exact ⟨RcAt.str_int a ta i t, EqAt.str_int a ta i t⟩
      | str i => cases (show y = .str i from hy); obtain ⟨t, rfl⟩ := rv; simp only [deq]; exact ⟨RcAt.str_str a ta i t, EqAt.str_str a ta i t⟩
      | tup ds => obtain ⟨a', xs, rfl, ha, _⟩ := hy; cases rv; obtain ⟨its, r, ht⟩ := I.tupK ha; simp only [deq]; exact ⟨RcAt.str_tuple a ta ht hu', EqAt.str_tuple a ta ht hu'⟩
      | lst ds => obtain ⟨a', xs, rfl, ha, _⟩ := hy; cases rv; obtain ⟨its, r, ht⟩ := I.lstK ha; simp only [deq]; exact ⟨RcAt.str_list a ta ht hu', EqAt.str_list a ta ht hu'⟩
  | succ n ih =>
    intro A d d' x y u v hd hu hx hy ru rv
    have hu' : A.units < cLine := by omega
    have hin : A.in1.units + n < cLine := by show A.units + 1 + n < cLine; omega
    by_cases h0 : d.deep ≤ n
    · exact ih A d d' x y u v h0 (by omega) hx hy ru rv
    cases d with
    | tup ds =>
      have hds : D.deeps ds ≤ n := by simp [D.deep] at hd; exact hd
      obtain ⟨a, xs, rfl, ha, hs⟩ := id hx
      cases ru
      obtain ⟨its, r, ht⟩ := I.tupK ha
      cases d' with
      | non => cases (show y = .non from hy); cases rv; simp only [deq]; exact ⟨RcAt.tuple_none ht hu', EqAt.tuple_none ht hu'⟩
      | bl b => cases (show y = .bl b from hy); cases rv; simp only [deq]; exact ⟨RcAt.tuple_bool b ht hu', EqAt.tuple_bool b ht hu'⟩
      | int i => cases (show y = .int i from hy); obtain ⟨t, rfl⟩ := rv; simp only [deq]; exact ⟨RcAt.tuple_int i t ht hu', EqAt.tuple_int i t ht hu'⟩
      | str i => cases (show y = .str i from hy); obtain ⟨t, rfl⟩ := rv; simp only [deq]; exact ⟨RcAt.tuple_str i t ht hu', EqAt.tuple_str i t ht hu'⟩
      | lst ds' => obtain ⟨a', xs', rfl, ha', _⟩ := hy; cases rv; obtain ⟨its', r', ht'⟩ := I.lstK ha'; simp only [deq]; exact ⟨RcAt.tuple_list ht ht' hu', EqAt.tuple_list ht ht' hu'⟩
      | tup ds' =>
        obtain ⟨a', xs', rfl, ha', hs'⟩ := id hy
        cases rv
        obtain ⟨its', r', ht'⟩ := I.tupK ha'
        have rc : RcAt A s (.ref a) (.ref a') (deq (.tup ds) (.tup ds')) := by
          have z := RcAt.tuples (A := A) (s := s) (e := fun j => deq (ds.getD j .non) (ds'.getD j .non)) ht ht' hu' (seq_itemsK r r' hs hs' fun j e e' x y u v h1 h2 h3 h4 h5 h6 => (ih A.in1 e e' x y u v (Nat.le_trans (deep_mem h1) hds) hin h3 h4 h5 h6).2)
          have e1 : its.toArray.size = ds.length := by rw [List.size_toArray, ← r.length, hs.length]
          have e2 : its'.toArray.size = ds'.length := by rw [List.size_toArray, ← r'.length, hs'.length]
          rw [e1, e2, deqs_range] at z
          simp only [deq]
          exact z
        refine ⟨rc, ?_⟩
        by_cases hne : a = a'
        · subst hne
          have : D.tup ds = D.tup ds' := RepK.inj I hx hy
          rw [← this, deq_refl]
          exact EqAt.same _
        · exact EqAt.of_refs hne rc
    | lst ds =>
      have hds : D.deeps ds ≤ n := by simp [D.deep] at hd; exact hd
      obtain ⟨a, xs, rfl, ha, hs⟩ := id hx
      cases ru
      obtain ⟨its, r, ht⟩ := I.lstK ha
      cases d' with
      | non => cases (show y = .non from hy); cases rv; simp only [deq]; exact ⟨RcAt.list_none ht hu', EqAt.list_none ht hu'⟩
      | bl b => cases (show y = .bl b from hy); cases rv; simp only [deq]; exact ⟨RcAt.list_bool b ht hu', EqAt.list_bool b ht hu'⟩
      | int i => cases (show y = .int i from hy); obtain ⟨t, rfl⟩ := rv; simp only [deq]; exact ⟨RcAt.list_int i t ht hu', EqAt.list_int i t ht hu'⟩
      | str i => cases (show y = .str i from hy); obtain ⟨t, rfl⟩ := rv; simp only [deq]; exact ⟨RcAt.list_str i t ht hu', EqAt.list_str i t ht hu'⟩
      | tup ds' => obtain ⟨a', xs', rfl, ha', _⟩ := hy; cases rv; obtain ⟨its', r', ht'⟩ := I.tupK ha'; simp only [deq]; exact ⟨RcAt.list_tuple ht ht' hu', EqAt.list_tuple ht ht' hu'⟩
      | lst ds' =>
        obtain ⟨a', xs', rfl, ha', hs'⟩ := id hy
        cases rv
        obtain ⟨its', r', ht'⟩ := I.lstK ha'
        have e1 : its.toArray.size = ds.length := by rw [List.size_toArray, ← r.length, hs.length]
        have e2 : its'.toArray.size = ds'.length := by rw [List.size_toArray, ← r'.length, hs'.length]
        have rc : RcAt A s (.ref a) (.ref a') (deq (.lst ds) (.lst ds')) := by
          simp only [deq]
          by_cases hl : ds.length = ds'.length
          · have z := RcAt.lists (A := A) (s := s) (e := fun j => deq (ds.getD j .non) (ds'.getD j .non)) ht ht' (by rw [e1, e2]; exact hl) hu' (seq_itemsK r r' hs hs' fun j e e' x y u v h1 h2 h3 h4 h5 h6 => (ih A.in1 e e' x y u v (Nat.le_trans (deep_mem h1) hds) hin h3 h4 h5 h6).2)
            have q := deqs_range (ds := ds) (ds' := ds')
            rw [← hl, Nat.min_self, beq_self_eq_true, Bool.and_true] at q
            rw [e1, q] at z
            exact z
          · have z := RcAt.lists_lengths (A := A) (s := s) ht ht' (by rw [e1, e2]; simpa using hl) hu'
            have q := deqs_range (ds := ds) (ds' := ds')
            rw [show (ds.length == ds'.length) = false from beq_eq_false_iff_ne.mpr hl, Bool.and_false] at q
            rw [← q]
            exact z
        refine ⟨rc, ?_⟩
        by_cases hne : a = a'
        · subst hne
          have : D.lst ds = D.lst ds' := RepK.inj I hx hy
          rw [← this, deq_refl]
          exact EqAt.same _
        · exact EqAt.of_refs hne rc
    | _ => exact absurd (by simp [D.deep]) h0

def rEqK (K : PySem.W.Frag) : R2 := fun x y H Q => ∃ d d', RepK K H d x ∧ RepK K H d' y ∧ d.deep ≤ 150 ∧ Q (.bl (deq d d')) H
theorem op_eqK (hu : X.A.units + 150 < cLine) : OpR X (compareOp .Eq) (rEqK X.K) := by
  intro pins s σ H x y v u Q I rx ry h
  obtain ⟨d, d', h1, h2, h3, q⟩ := h
  exact (rc_and_eqK I 150 X.A d d' x y v u h3 hu h1 h2 rx ry).1 X.prog X.w X.xe _ ⟨.bl _, H, I, rfl, q⟩
theorem rc_neK (I : Inv X pins σ H s) (A : Around) (d d' : D) (x y : V) (u v : Value) (hd : d.deep ≤ 150) (hu : A.units + 151 < cLine) (hx : RepK X.K H d x) (hy : RepK X.K H d' y) (ru : RelV x u) (rv : RelV y v) : RcNeAt A s u v (!deq d d') := by
  have hu' : A.units < cLine := by omega
  have hin : A.in1.units + 150 < cLine := by show A.units + 1 + 150 < cLine; omega
  cases d with
  | non =>
    cases (show x = .non from hx); cases ru
    cases d' with
    | non => cases (show y = .non from hy); cases rv; simp only [deq]; exact RcNeAt.none_none
    | bl b2 => cases (show y = .bl b2 from hy); cases rv; simp only [deq]; exact RcNeAt.none_bool b2
    | int b2 => cases (show y = .int b2 from hy); obtain ⟨t2, rfl⟩ := rv; simp only [deq]; exact RcNeAt.none_int b2 t2
    | str b2 => cases (show y = .str b2 from hy); obtain ⟨t2, rfl⟩ := rv; simp only [deq]; exact RcNeAt.none_str b2 t2
    | tup ds2 => obtain ⟨a2, xs2, rfl, ha2, hs2⟩ := id hy; cases rv; obtain ⟨its2, r2, ht2⟩ := I.tupK ha2; simp only [deq]; exact RcNeAt.none_tuple ht2 hu'
    | lst ds2 => obtain ⟨a2, xs2, rfl, ha2, hs2⟩ := id hy; cases rv; obtain ⟨its2, r2, ht2⟩ := I.lstK ha2; simp only [deq]; exact RcNeAt.none_list ht2 hu'
  | bl b1 =>
    cases (show x = .bl b1 from hx); cases ru
    cases d' with
    | non => cases (show y = .non from hy); cases rv; simp only [deq]; exact RcNeAt.bool_none b1
    | bl b2 => cases (show y = .bl b2 from hy); cases rv; simp only [deq]; exact RcNeAt.bool_bool b1 b2
    | int b2 => cases (show y = .int b2 from hy); obtain ⟨t2, rfl⟩ := rv; simp only [deq]; exact RcNeAt.bool_int b1 b2 t2
    | str b2 => cases (show y = .str b2 from hy); obtain ⟨t2, rfl⟩ := rv; simp only [deq]; exact RcNeAt.bool_str b1 b2 t2
    | tup ds2 => obtain ⟨a2, xs2, rfl, ha2, hs2⟩ := id hy; cases rv; obtain ⟨its2, r2, ht2⟩ := I.tupK ha2; simp only [deq]; exact RcNeAt.bool_tuple b1 ht2 hu'
    | lst ds2 => obtain ⟨a2, xs2, rfl, ha2, hs2⟩ := id hy; cases rv; obtain ⟨its2, r2, ht2⟩ := I.lstK ha2; simp only [deq]; exact RcNeAt.bool_list b1 ht2 hu'
  | int b1 =>
    cases (show x = .int b1 from hx); obtain ⟨t1, rfl⟩ := ru
    cases d' with
    | non => cases (show y = .non from hy); cases rv; simp only [deq]; exact RcNeAt.int_none b1 t1
    | bl b2 => cases (show y = .bl b2 from hy); cases rv; simp only [deq]; exact RcNeAt.int_bool b1 t1 b2
    | int b2 => cases (show y = .int b2 from hy); obtain ⟨t2, rfl⟩ := rv; simp only [deq]; exact RcNeAt.int_int b1 t1 b2 t2
    | str b2 => cases (show y = .str b2 from hy); obtain ⟨t2, rfl⟩ := rv; simp only [deq]; exact RcNeAt.int_str b1 t1 b2 t2
    | tup ds2 => obtain ⟨a2, xs2, rfl, ha2, hs2⟩ := id hy; cases rv; obtain ⟨its2, r2, ht2⟩ := I.tupK ha2; simp only [deq]; exact RcNeAt.int_tuple b1 t1 ht2 hu'
    | lst ds2 => obtain ⟨a2, xs2, rfl, ha2, hs2⟩ := id hy; cases rv; obtain ⟨its2, r2, ht2⟩ := I.lstK ha2; simp only [deq]; exact RcNeAt.int_list b1 t1 ht2 hu'
  | str b1 =>
    cases (show x = .str b1 from hx); obtain ⟨t1, rfl⟩ := ru
    cases d' with
    | non => cases (show y = .non from hy); cases rv; simp only [deq]; exact RcNeAt.str_none b1 t1
    | bl b2 => cases (show y = .bl b2 from hy); cases rv; simp only [deq]; exact RcNeAt.str_bool b1 t1 b2
    | int b2 => cases (show y = .int b2 from hy); obtain ⟨t2, rfl⟩ := rv; simp only [deq]; exact RcNeAt.str_int b1 t1 b2 t2
    | str b2 => cases (show y = .str b2 from hy); obtain ⟨t2, rfl⟩ := rv; simp only [deq]; exact RcNeAt.str_str b1 t1 b2 t2
    | tup ds2 => obtain ⟨a2, xs2, rfl, ha2, hs2⟩ := id hy; cases rv; obtain ⟨its2, r2, ht2⟩ := I.tupK ha2; simp only [deq]; exact RcNeAt.str_tuple b1 t1 ht2 hu'
    | lst ds2 => obtain ⟨a2, xs2, rfl, ha2, hs2⟩ := id hy; cases rv; obtain ⟨its2, r2, ht2⟩ := I.lstK ha2; simp only [deq]; exact RcNeAt.str_list b1 t1 ht2 hu'
  | tup ds1 =>
    obtain ⟨a1, xs1, rfl, ha1, hs1⟩ := id hx; cases ru; obtain ⟨its1, r1, ht1⟩ := I.tupK ha1
    cases d' with
    | non => cases (show y = .non from hy); cases rv; simp only [deq]; exact RcNeAt.tuple_none ht1 hu'
    | bl b2 => cases (show y = .bl b2 from hy); cases rv; simp only [deq]; exact RcNeAt.tuple_bool b2 ht1 hu'
    | int b2 => cases (show y = .int b2 from hy); obtain ⟨t2, rfl⟩ := rv; simp only [deq]; exact RcNeAt.tuple_int b2 t2 ht1 hu'
    | str b2 => cases (show y = .str b2 from hy); obtain ⟨t2, rfl⟩ := rv; simp only [deq]; exact RcNeAt.tuple_str b2 t2 ht1 hu'
    | tup ds2 =>
      obtain ⟨a2, xs2, rfl, ha2, hs2⟩ := id hy; cases rv; obtain ⟨its2, r2, ht2⟩ := I.tupK ha2
      have hds : D.deeps ds1 ≤ 150 := by have := hd; simp [D.deep] at this; omega
      have z := RcNeAt.tuples (A := A) (s := s) (e := fun j => deq (ds1.getD j .non) (ds2.getD j .non)) ht1 ht2 hu' (seq_itemsK r1 r2 hs1 hs2 fun j e e' x y u v h1 h2 h3 h4 h5 h6 => (rc_and_eqK I 150 A.in1 e e' x y u v (Nat.le_trans (deep_mem h1) hds) hin h3 h4 h5 h6).2)
      have e1 : its1.toArray.size = ds1.length := by rw [List.size_toArray, ← r1.length, hs1.length]
      have e2 : its2.toArray.size = ds2.length := by rw [List.size_toArray, ← r2.length, hs2.length]
      rw [e1, e2, deqs_range] at z
      simp only [deq]
      exact z
    | lst ds2 => obtain ⟨a2, xs2, rfl, ha2, hs2⟩ := id hy; cases rv; obtain ⟨its2, r2, ht2⟩ := I.lstK ha2; simp only [deq]; exact RcNeAt.tuple_list ht1 ht2 hu'
  | lst ds1 =>
    obtain ⟨a1, xs1, rfl, ha1, hs1⟩ := id hx; cases ru; obtain ⟨its1, r1, ht1⟩ := I.lstK ha1
    cases d' with
    | non => cases (show y = .non from hy); cases rv; simp only [deq]; exact RcNeAt.list_none ht1 hu'
    | bl b2 => cases (show y = .bl b2 from hy); cases rv; simp only [deq]; exact RcNeAt.list_bool b2 ht1 hu'
    | int b2 => cases (show y = .int b2 from hy); obtain ⟨t2, rfl⟩ := rv; simp only [deq]; exact RcNeAt.list_int b2 t2 ht1 hu'
    | str b2 => cases (show y = .str b2 from hy); obtain ⟨t2, rfl⟩ := rv; simp only [deq]; exact RcNeAt.list_str b2 t2 ht1 hu'
    | tup ds2 => obtain ⟨a2, xs2, rfl, ha2, hs2⟩ := id hy; cases rv; obtain ⟨its2, r2, ht2⟩ := I.tupK ha2; simp only [deq]; exact RcNeAt.list_tuple ht1 ht2 hu'
    | lst ds2 =>
      obtain ⟨a2, xs2, rfl, ha2, hs2⟩ := id hy; cases rv; obtain ⟨its2, r2, ht2⟩ := I.lstK ha2
      have hds : D.deeps ds1 ≤ 150 := by have := hd; simp [D.deep] at this; omega
      have e1 : its1.toArray.size = ds1.length := by rw [List.size_toArray, ← r1.length, hs1.length]
      have e2 : its2.toArray.size = ds2.length := by rw [List.size_toArray, ← r2.length, hs2.length]
      simp only [deq]
      by_cases hl : ds1.length = ds2.length
      · have z := RcNeAt.lists (A := A) (s := s) (e := fun j => deq (ds1.getD j .non) (ds2.getD j .non)) ht1 ht2 (by rw [e1, e2]; exact hl) hu' (seq_itemsK r1 r2 hs1 hs2 fun j e e' x y u v h1 h2 h3 h4 h5 h6 => (rc_and_eqK I 150 A.in1 e e' x y u v (Nat.le_trans (deep_mem h1) hds) hin h3 h4 h5 h6).2)
        have q := deqs_range (ds := ds1) (ds' := ds2)
        rw [← hl, Nat.min_self, beq_self_eq_true, Bool.and_true] at q
        rw [e1, q] at z
        exact z
      · have z := RcNeAt.lists_lengths (A := A) (s := s) ht1 ht2 (by rw [e1, e2]; simpa using hl) hu'
        have q := deqs_range (ds := ds1) (ds' := ds2)
        rw [show (ds1.length == ds2.length) = false from beq_eq_false_iff_ne.mpr hl, Bool.and_false] at q
        rw [← q]
        exact z
def rNeK (K : PySem.W.Frag) : R2 := fun x y H Q => ∃ d d', RepK K H d x ∧ RepK K H d' y ∧ d.deep ≤ 150 ∧ Q (.bl (!deq d d')) H
theorem op_neK (hu : X.A.units + 151 < cLine) : OpR X (compareOp .NotEq) (rNeK X.K) := by
  intro pins s σ H x y v u Q I rx ry h
  obtain ⟨d, d', h1, h2, h3, q⟩ := h
  exact rc_neK I X.A d d' x y v u h3 hu h1 h2 rx ry X.prog X.w X.xe _ ⟨.bl _, H, I, rfl, q⟩
noncomputable def eOfK (K : PySem.W.Frag) (H : Hp) (d : D) (y : Value) : Bool := @decide (∃ (d' : D) (v' : V), RelV v' y ∧ RepK K H d' v' ∧ deq d' d = true) (Classical.propDecidable _)
theorem eOfK_eq (I : Inv X pins σ H s) {d d' : D} {v' : V} {y : Value} (r : RelV v' y) (h : RepK X.K H d' v') : eOfK X.K H d y = deq d' d := by
  unfold eOfK
  cases e : deq d' d with
  | true => exact @decide_eq_true _ (Classical.propDecidable _) ⟨d', v', r, h, e⟩
  | false =>
    refine @decide_eq_false _ (Classical.propDecidable _) ?_
    rintro ⟨d2, v2, r2, h2, e2⟩
    rw [r2.inj r] at h2
    rw [RepK.inj I h2 h, e] at e2
    cases e2
theorem any_eOfK (I : Inv X pins σ H s) {d : D} : ∀ {ds : List D} {xs : List V} {us : List Value}, Vals xs us → RepKs X.K H ds xs → us.any (eOfK X.K H d) = ds.any fun e => deq e d
  | [], xs, us, r, h => by cases (show xs = [] from h); cases r; rfl
  | e :: ds, xs, us, r, h => by
    obtain ⟨x, xr, rfl, h1, h2⟩ := h
    cases r with
    | cons r1 r2 => rw [List.any_cons, List.any_cons, eOfK_eq I r1 h1, any_eOfK I r2 h2]
theorem mem_eOfK (I : Inv X pins σ H s) {A : Around} (hu : A.units + 150 < cLine) {d : D} {x : V} {v : Value} (rx : RelV x v) (hx : RepK X.K H d x) : ∀ {ds : List D} {xs : List V} {us : List Value}, Vals xs us → RepKs X.K H ds xs → D.deeps ds ≤ 150 → ∀ u ∈ us, EqAt A s u v (eOfK X.K H d u)
  | [], xs, us, r, h, _, u, hm => by cases (show xs = [] from h); cases r; cases hm
  | e :: ds, xs, us, r, h, hd, u, hm => by
    obtain ⟨y, xr, rfl, h1, h2⟩ := h
    have hd' : e.deep ≤ 150 ∧ D.deeps ds ≤ 150 := by simp [D.deeps] at hd; omega
    cases r with
    | cons r1 r2 =>
      rcases List.mem_cons.mp hm with rfl | hm
      · rw [eOfK_eq I r1 h1]
        exact (rc_and_eqK I 150 A e d y x u v hd'.1 hu h1 hx r1 rx).2
      · exact mem_eOfK I hu rx hx r2 h2 hd'.2 u hm
def rInK (K : PySem.W.Frag) (neg : Bool) : R2 := fun x y H Q => ∃ (p : Addr) (xs : List V) (ds : List D) (d : D), y = .ref p ∧ (SqL K H p xs ∨ SqT K H p xs) ∧ RepKs K H ds xs ∧ RepK K H d x ∧ D.deeps ds ≤ 150 ∧ Q (.bl (if neg then !(ds.any fun e => deq e d) else ds.any fun e => deq e d)) H
theorem op_inK (hu : X.A.units + 151 < cLine) : OpR X (compareOp .In) (rInK X.K false) := by
  intro pins s σ H x y v u Q I rx ry h
  obtain ⟨p, xs, ds, d, rfl, hq, hs, hx, hd, q⟩ := h
  cases ry
  have hu' : X.A.in1.units + 150 < cLine := by show X.A.units + 1 + 150 < cLine; omega
  rcases hq with hq | hq
  · obtain ⟨its, r, pl⟩ := I.lstK hq
    refine SeqAt.in_listAt (eOfK X.K H d) pl (fun w hw => mem_eOfK I hu' rx hx r hs hd w (by simpa using hw)) ⟨.bl _, H, I, rfl, ?_⟩
    rw [show its.toArray.any (eOfK X.K H d) = its.any (eOfK X.K H d) by simp, any_eOfK I r hs]
    exact q
  · obtain ⟨its, r, pl⟩ := I.tupK hq
    refine SeqAt.in_tupleAt (eOfK X.K H d) pl (fun w hw => mem_eOfK I hu' rx hx r hs hd w (by simpa using hw)) ⟨.bl _, H, I, rfl, ?_⟩
    rw [show its.toArray.any (eOfK X.K H d) = its.any (eOfK X.K H d) by simp, any_eOfK I r hs]
    exact q
theorem op_notInK (hu : X.A.units + 151 < cLine) : OpR X (compareOp .NotIn) (rInK X.K true) := by
  intro pins s σ H x y v u Q I rx ry h
  obtain ⟨p, xs, ds, d, rfl, hq, hs, hx, hd, q⟩ := h
  cases ry
  have hu' : X.A.in1.units + 150 < cLine := by show X.A.units + 1 + 150 < cLine; omega
  rcases hq with hq | hq
  · obtain ⟨its, r, pl⟩ := I.lstK hq
    refine SeqAt.notIn_listAt (eOfK X.K H d) pl (fun w hw => mem_eOfK I hu' rx hx r hs hd w (by simpa using hw)) ⟨.bl _, H, I, rfl, ?_⟩
    rw [show its.toArray.any (eOfK X.K H d) = its.any (eOfK X.K H d) by simp, any_eOfK I r hs]
    exact q
  · obtain ⟨its, r, pl⟩ := I.tupK hq
    refine SeqAt.notIn_tupleAt (eOfK X.K H d) pl (fun w hw => mem_eOfK I hu' rx hx r hs hd w (by simpa using hw)) ⟨.bl _, H, I, rfl, ?_⟩
    rw [show its.toArray.any (eOfK X.K H d) = its.any (eOfK X.K H d) by simp, any_eOfK I r hs]
    exact q
end
end L2
set_option Elab.async false
set_option linter.all false
set_option maxRecDepth 100000
namespace L2
open PySem PySem.Spec PyProof.Rows
mutual
def toDB (f : Nat → Option D) : M → Option D
  | .non => some .non
  | .bl b => some (.bl b)
  | .int i => some (.int i)
  | .str x => some (.str x)
  | .tup xs => (toDBs f xs).map .tup
  | .lst xs => (toDBs f xs).map .lst
  | .ref k => f k
  | .scr ns => some (.lst (ns.map D.int))
  | _ => none
def toDBs (f : Nat → Option D) : List M → Option (List D)
  | [] => some []
  | x :: xs => (toDB f x).bind fun d => (toDBs f xs).map (d :: ·)
end
def lookD (h : HpM) : Nat → Nat → Option D
  | 0, _ => none
  | q + 1, k => match h[k]? with | some (.lst xs) => (toDBs (lookD h q) xs).map .lst | _ => none
def toD (h : HpM) : M → Option D := toDB (lookD h 20)
def toDs (h : HpM) : List M → Option (List D) := toDBs (lookD h 20)
theorem RepKs.ints {K : PySem.W.Frag} {H : Hp} : ∀ {ns : List Int}, RepKs K H (ns.map D.int) (ns.map V.int)
  | [] => rfl
  | n :: ns => ⟨_, _, rfl, rfl, RepKs.ints⟩
mutual
theorem toDB_rep {K : PySem.W.Frag} {α : Pl} {H : Hp} {f : Nat → Option D} (hf : ∀ k d v, f k = some d → RepA K α H (.ref k) v → RepK K H d v) : ∀ {m : M} {d : D} {v : V}, toDB f m = some d → RepA K α H m v → RepK K H d v
  | .non, _, _, e, r => by cases e; exact r
  | .bl b, _, _, e, r => by cases e; exact r
  | .int b, _, _, e, r => by cases e; exact r
  | .str b, _, _, e, r => by cases e; exact r
  | .tup xs, _, _, e, r => by
    obtain ⟨ds, e1, e2⟩ := Option.map_eq_some_iff.mp e
    subst e2
    obtain ⟨a, vs, e3, t, rs⟩ := r
    exact ⟨a, vs, e3, t.sq, toDBs_rep hf e1 rs⟩
  | .lst xs, _, _, e, r => by
    obtain ⟨ds, e1, e2⟩ := Option.map_eq_some_iff.mp e
    subst e2
    obtain ⟨a, vs, e3, n, t, rs⟩ := r
    exact ⟨a, vs, e3, .of t, toDBs_rep hf e1 rs⟩
  | .ref k, _, _, e, r => hf k _ _ e r
  | .scr ns, _, _, e, r => by
    cases e
    obtain ⟨a, e3, t⟩ := r
    exact ⟨a, _, e3, t.sq, RepKs.ints⟩
  | .ty _, _, _, e, _ => by cases e
  | .dct _ _, _, _, e, _ => by cases e
theorem toDBs_rep {K : PySem.W.Frag} {α : Pl} {H : Hp} {f : Nat → Option D} (hf : ∀ k d v, f k = some d → RepA K α H (.ref k) v → RepK K H d v) : ∀ {m : List M} {d : List D} {v : List V}, toDBs f m = some d → RepAs K α H m v → RepKs K H d v
  | [], _, _, e, r => by cases e; exact r
  | x :: xs, _, _, e, r => by
    obtain ⟨d, e1, e2⟩ := Option.bind_eq_some_iff.mp e
    obtain ⟨ds, e3, e4⟩ := Option.map_eq_some_iff.mp e2
    subst e4
    obtain ⟨v, vs, rfl, h1, h2⟩ := r
    exact ⟨v, vs, rfl, toDB_rep hf e1 h1, toDBs_rep hf e3 h2⟩
end
theorem lookD_rep {K : PySem.W.Frag} {α : Pl} {h : HpM} {H : Hp} (hr : Rl K α h H) : ∀ (q k : Nat) (d : D) (v : V), lookD h q k = some d → RepA K α H (.ref k) v → RepK K H d v
  | 0, _, _, _, e, _ => by cases e
  | q + 1, k, d, v, e, ⟨a, ha, e2⟩ => by
    unfold lookD at e
    split at e
    · rename_i xs hx
      obtain ⟨ds, e3, e4⟩ := Option.map_eq_some_iff.mp e
      subst e4
      obtain ⟨vs, hv, rs⟩ := hr.obj k a _ ha hx
      exact ⟨a, vs, e2, .of hv, toDBs_rep (fun k d v => lookD_rep hr q k d v) e3 rs⟩
    · cases e
theorem toD_rep {K : PySem.W.Frag} {α : Pl} {h : HpM} {H : Hp} {m : M} {d : D} {v : V} (hr : Rl K α h H) (e : toD h m = some d) (r : RepA K α H m v) : RepK K H d v := toDB_rep (fun k d v => lookD_rep hr 20 k d v) e r
theorem toDs_rep {K : PySem.W.Frag} {α : Pl} {h : HpM} {H : Hp} {m : List M} {d : List D} {v : List V} (hr : Rl K α h H) (e : toDs h m = some d) (r : RepAs K α H m v) : RepKs K H d v := toDBs_rep (fun k d v => lookD_rep hr 20 k d v) e r
def opEq (x y : M) (h : HpM) : Option M := (toD h x).bind fun d => (toD h y).bind fun d' => if d.deep ≤ 150 then some (.bl (deq d d')) else none
def opNe (x y : M) (h : HpM) : Option M := (toD h x).bind fun d => (toD h y).bind fun d' => if d.deep ≤ 150 then some (.bl (!deq d d')) else none
section
variable {X : Cx} {K : PySem.W.Frag}
theorem fm_eq : OpM K (rEqK K) opEq := by
  intro α h H x y d u v Q hr rx ry e k
  obtain ⟨d1, e1, e⟩ := Option.bind_eq_some_iff.mp e
  obtain ⟨d2, e2, e⟩ := Option.bind_eq_some_iff.mp e
  split at e
  · rename_i hd
    cases e
    exact ⟨d1, d2, toD_rep hr e1 rx, toD_rep hr e2 ry, hd, k H _ (Same.refl _) rfl⟩
  · cases e
theorem fm_ne : OpM K (rNeK K) opNe := by
  intro α h H x y d u v Q hr rx ry e k
  obtain ⟨d1, e1, e⟩ := Option.bind_eq_some_iff.mp e
  obtain ⟨d2, e2, e⟩ := Option.bind_eq_some_iff.mp e
  split at e
  · rename_i hd
    cases e
    exact ⟨d1, d2, toD_rep hr e1 rx, toD_rep hr e2 ry, hd, k H _ (Same.refl _) rfl⟩
  · cases e
def subIn (i j : Str) : Bool := !(Builtin.Str.occurrences j i 0 j.length 1).isEmpty
def anyD (x : M) (xs : List M) (h : HpM) (f : Bool → M) : Option M := (toDs h xs).bind fun ds => (toD h x).bind fun d => if D.deeps ds ≤ 150 then some (f (ds.any fun e => deq e d)) else none
def opIn (x y : M) (h : HpM) : Option M := match dctOf h y with
  | some kvs => (keyM x).map fun k => .bl (valM kvs k).isSome
  | none => (match y with
  | .str j => (match x with | .str i => some (.bl (subIn i j)) | _ => none)
  | .tup xs => anyD x xs h fun b => .bl b
  | y => (seqR h y).bind fun xs => anyD x xs h fun b => .bl b)
def opNotIn (x y : M) (h : HpM) : Option M := match dctOf h y with
  | some kvs => (keyM x).map fun k => .bl (!(valM kvs k).isSome)
  | none => (match y with
  | .str j => (match x with | .str i => some (.bl (!subIn i j)) | _ => none)
  | .tup xs => anyD x xs h fun b => .bl (!b)
  | y => (seqR h y).bind fun xs => anyD x xs h fun b => .bl (!b))
def rInDct : R2 := fun x y H Q => ∃ a o, y = .ref a ∧ DGet H a x o ∧ Q (.bl o.isSome) H
def rNotInDct : R2 := fun x y H Q => ∃ a o, y = .ref a ∧ DGet H a x o ∧ Q (.bl (!o.isSome)) H
theorem op_inDct (hu : X.A.units + 1 < cLine) : OpR X (compareOp .In) rInDct := by
  intro pins s σ H x y v u Q I rx ry q
  obtain ⟨a, o, rfl, g, q⟩ := q
  cases (show u = .ref a from ry)
  exact d_in hu I g rx fun s' I' => ⟨.bl o.isSome, H, I', rfl, q⟩
theorem op_notInDct (hu : X.A.units + 1 < cLine) : OpR X (compareOp .NotIn) rNotInDct := by
  intro pins s σ H x y v u Q I rx ry q
  obtain ⟨a, o, rfl, g, q⟩ := q
  cases (show u = .ref a from ry)
  exact d_notIn hu I g rx fun s' I' => ⟨.bl (!o.isSome), H, I', rfl, q⟩
def rInM (K : PySem.W.Frag) : R2 := fun x y H Q => rInDct x y H Q ∨ rInK K false x y H Q ∨ ∃ i j, x = .str i ∧ y = .str j ∧ Q (.bl (!(Builtin.Str.occurrences j i 0 j.length 1).isEmpty)) H
def rNotInM (K : PySem.W.Frag) : R2 := fun x y H Q => rNotInDct x y H Q ∨ rInK K true x y H Q ∨ ∃ i j, x = .str i ∧ y = .str j ∧ Q (.bl (!(!(Builtin.Str.occurrences j i 0 j.length 1).isEmpty))) H
theorem op_inM (hu : X.A.units + 151 < cLine) : OpR X (compareOp .In) (rInM X.K) := (op_inDct (by omega)).or ((op_inK hu).or op_in_str)
theorem op_notInM (hu : X.A.units + 151 < cLine) : OpR X (compareOp .NotIn) (rNotInM X.K) := (op_notInDct (by omega)).or ((op_notInK hu).or op_notIn_str)
theorem anyD_inv {x : M} {xs : List M} {h : HpM} {f : Bool → M} {d : M} (e : anyD x xs h f = some d) : ∃ ds dx, toDs h xs = some ds ∧ toD h x = some dx ∧ D.deeps ds ≤ 150 ∧ d = f (ds.any fun e => deq e dx) := by
  obtain ⟨ds, e1, e⟩ := Option.bind_eq_some_iff.mp e
  obtain ⟨dx, e2, e⟩ := Option.bind_eq_some_iff.mp e
  split at e
  · rename_i hd; cases e; exact ⟨ds, dx, e1, e2, hd, rfl⟩
  · cases e
theorem fm_in : OpM K (rInM K) opIn := by
  intro α h H x y d u v Q hr rx ry e k
  unfold opIn at e
  split at e
  · rename_i kvs hk
    obtain ⟨key, e1, e2⟩ := Option.map_eq_some_iff.mp e
    subst e2
    obtain ⟨a, ws, rfl, ha, ek, rs⟩ := dctOf_rep hr ry hk
    cases (keyM_rep e1 rx)
    exact .inl ⟨a, _, rfl, DGet.k ha, by rw [(valM_rep key ek rs).1]; exact k H _ (Same.refl _) rfl⟩
  refine .inr ?_
  split at e
  · split at e
    · cases e
      exact .inr ⟨_, _, rx, ry, k H _ (Same.refl _) rfl⟩
    · cases e
  · obtain ⟨ds, dx, e1, e2, hd, rfl⟩ := anyD_inv e
    obtain ⟨a, vs, rfl, t, rs⟩ := ry
    exact .inl ⟨a, vs, ds, dx, rfl, .inr t.sq, toDs_rep hr e1 rs, toD_rep hr e2 rx, hd, k H _ (Same.refl _) rfl⟩
  · obtain ⟨xs, e0, e⟩ := Option.bind_eq_some_iff.mp e
    obtain ⟨ds, dx, e1, e2, hd, rfl⟩ := anyD_inv e
    obtain ⟨a, vs, rfl, t, rs⟩ := seqR_rep hr ry e0
    exact .inl ⟨a, vs, ds, dx, rfl, .inl t, toDs_rep hr e1 rs, toD_rep hr e2 rx, hd, k H _ (Same.refl _) rfl⟩
theorem fm_notIn : OpM K (rNotInM K) opNotIn := by
  intro α h H x y d u v Q hr rx ry e k
  unfold opNotIn at e
  split at e
  · rename_i kvs hk
    obtain ⟨key, e1, e2⟩ := Option.map_eq_some_iff.mp e
    subst e2
    obtain ⟨a, ws, rfl, ha, ek, rs⟩ := dctOf_rep hr ry hk
    cases (keyM_rep e1 rx)
    exact .inl ⟨a, _, rfl, DGet.k ha, by rw [(valM_rep key ek rs).1]; exact k H _ (Same.refl _) rfl⟩
  refine .inr ?_
  split at e
  · split at e
    · cases e
      exact .inr ⟨_, _, rx, ry, k H _ (Same.refl _) rfl⟩
    · cases e
  · obtain ⟨ds, dx, e1, e2, hd, rfl⟩ := anyD_inv e
    obtain ⟨a, vs, rfl, t, rs⟩ := ry
    exact .inl ⟨a, vs, ds, dx, rfl, .inr t.sq, toDs_rep hr e1 rs, toD_rep hr e2 rx, hd, k H _ (Same.refl _) rfl⟩
  · obtain ⟨xs, e0, e⟩ := Option.bind_eq_some_iff.mp e
    obtain ⟨ds, dx, e1, e2, hd, rfl⟩ := anyD_inv e
    obtain ⟨a, vs, rfl, t, rs⟩ := seqR_rep hr ry e0
    exact .inl ⟨a, vs, ds, dx, rfl, .inl t, toDs_rep hr e1 rs, toD_rep hr e2 rx, hd, k H _ (Same.refl _) rfl⟩
def bLen (xs : List M) (h : HpM) : Option M := match xs with
  | [.str z] => if z.length ≤ 16777216 then some (.int z.length) else none
  | [.tup ys] => some (.int ys.length)
  | [.dct ks ys] => some (.int ks.length)
  | [x] => (match seqR h x with
    | some ys => some (.int ys.length)
    | none => (dctOf h x).map fun kvs => .int kvs.length)
  | _ => none
def rLenM (K : PySem.W.Frag) : List V → Hp → VK → Prop := fun xs H Q => (∃ z, xs = [.str z] ∧ z.length ≤ sizeLine ∧ Q (.int z.length) H) ∨ (∃ p ys, xs = [.ref p] ∧ (SqL K H p ys ∨ SqT K H p ys) ∧ Q (.int ys.length) H) ∨ ∃ a kvs, xs = [V.ref a] ∧ H a = some (.dK kvs) ∧ Q (.int kvs.length) H
theorem call_lenM : CallR X (.builtin "len") (rLenM X.K) := by
  intro pins s σ H xs us Q I r h
  rcases h with h | h | h
  · exact call_len_str pins s σ H _ us Q I r h
  · exact call_len_seq pins s σ H _ us Q I r h
  · exact call_lenD pins s σ H _ us Q I r h
theorem rep1 {α : Pl} {H : Hp} {x : M} {us : List V} (r : RepAs K α H [x] us) : ∃ u, us = [u] ∧ RepA K α H x u := by
  obtain ⟨u, q, rfl, h1, h2⟩ := r
  cases (show q = [] from h2)
  exact ⟨u, rfl, h1⟩
theorem rep2 {α : Pl} {H : Hp} {x y : M} {us : List V} (r : RepAs K α H [x, y] us) : ∃ u v, us = [u, v] ∧ RepA K α H x u ∧ RepA K α H y v := by
  obtain ⟨u, q, rfl, h1, h2⟩ := r
  obtain ⟨v, rfl, h3⟩ := rep1 h2
  exact ⟨u, v, rfl, h1, h3⟩
theorem rep3 {α : Pl} {H : Hp} {x y z : M} {us : List V} (r : RepAs K α H [x, y, z] us) : ∃ u v w, us = [u, v, w] ∧ RepA K α H x u ∧ RepA K α H y v ∧ RepA K α H z w := by
  obtain ⟨u, q, rfl, h1, h2⟩ := r
  obtain ⟨v, w, rfl, h3, h4⟩ := rep2 h2
  exact ⟨u, v, w, rfl, h1, h3, h4⟩
theorem fm_len : CallM K (rLenM K) bLen := by
  intro α h H xs d us Q hr rs e k
  unfold bLen at e
  split at e
  · split at e
    · rename_i hl
      cases e
      obtain ⟨u, rfl, ru⟩ := rep1 rs
      cases (show u = .str _ from ru)
      exact .inl ⟨_, rfl, by rw [sizeLine_eq]; exact hl, k H _ (Same.refl _) rfl⟩
    · cases e
  · cases e
    obtain ⟨u, rfl, a, vs, rfl, t, rv⟩ := rep1 rs
    exact .inr (.inl ⟨a, vs, rfl, .inr t.sq, k H _ (Same.refl _) (by rw [rv.length]; rfl)⟩)
  · cases e
    obtain ⟨u, rfl, a, ws, rfl, n, ha, ek, rv⟩ := rep1 rs
    exact .inr (.inr ⟨a, ws, rfl, ha, k H _ (Same.refl _) (by rw [← ek, List.length_map]; rfl)⟩)
  · obtain ⟨u, rfl, ru⟩ := rep1 rs
    split at e
    · rename_i ys hy
      cases e
      obtain ⟨a, vs, rfl, t, rv⟩ := seqR_rep hr ru hy
      exact .inr (.inl ⟨a, vs, rfl, .inl t, k H _ (Same.refl _) (by rw [rv.length]; rfl)⟩)
    · obtain ⟨kvs, e1, e2⟩ := Option.map_eq_some_iff.mp e
      subst e2
      obtain ⟨a, ws, rfl, ha, ek, rv⟩ := dctOf_rep hr ru e1
      refine .inr (.inr ⟨a, ws, rfl, ha, k H _ (Same.refl _) ?_⟩)
      have : ws.length = kvs.length := by have := congrArg List.length ek; simpa using this
      rw [this]; rfl
  · cases e
def bAbs (xs : List M) (_ : HpM) : Option M := match xs with | [.int i] => some (.int (if i < 0 then -i else i)) | _ => none
theorem fm_abs : CallM K (fun xs H Q => ∃ i, xs = [.int i] ∧ Q (.int (if i < 0 then -i else i)) H) bAbs := by
  intro α h H xs d us Q hr rs e k
  unfold bAbs at e
  split at e
  · cases e
    obtain ⟨u, rfl, ru⟩ := rep1 rs
    cases (show u = .int _ from ru)
    exact ⟨_, rfl, k H _ (Same.refl _) rfl⟩
  · cases e
def bMin (xs : List M) (_ : HpM) : Option M := match xs with | [.int i, .int j] => some (.int (if j < i then j else i)) | _ => none
theorem fm_min : CallM K (fun xs H Q => ∃ i j, xs = [.int i, .int j] ∧ Q (.int (if j < i then j else i)) H) bMin := by
  intro α h H xs d us Q hr rs e k
  unfold bMin at e
  split at e
  · cases e
    obtain ⟨u, v, rfl, ru, rv⟩ := rep2 rs
    cases (show u = .int _ from ru)
    cases (show v = .int _ from rv)
    exact ⟨_, _, rfl, k H _ (Same.refl _) rfl⟩
  · cases e
def bInt (xs : List M) (_ : HpM) : Option M := match xs with | [.int i] => some (.int i) | [.bl b] => some (.int (if b then 1 else 0)) | _ => none
theorem fm_int : CallM K (fun xs H Q => (∃ i, xs = [.int i] ∧ Q (.int i) H) ∨ ∃ k, xs = [.bl k] ∧ Q (.int (if k then 1 else 0)) H) bInt := by
  intro α h H xs d us Q hr rs e k
  unfold bInt at e
  split at e
  · cases e
    obtain ⟨u, rfl, ru⟩ := rep1 rs
    cases (show u = .int _ from ru)
    exact .inl ⟨_, rfl, k H _ (Same.refl _) rfl⟩
  · cases e
    obtain ⟨u, rfl, ru⟩ := rep1 rs
    cases (show u = .bl _ from ru)
    exact .inr ⟨_, rfl, k H _ (Same.refl _) rfl⟩
  · cases e
def bList (xs : List M) (h : HpM) : Option M := match xs with | [.tup ys] => some (.lst ys) | [x] => (seqR h x).map .lst | _ => none
theorem fm_list : CallM K (fun xs H Q => ∃ p ys, xs = [.ref p] ∧ (SqL K H p ys ∨ SqT K H p ys) ∧ ∀ l, H l = none → Q (.ref l) (upd H l (.lst ys))) bList := by
  intro α h H xs d us Q hr rs e k
  unfold bList at e
  split at e
  · cases e
    obtain ⟨u, rfl, a, vs, rfl, t, rv⟩ := rep1 rs
    exact ⟨a, vs, rfl, .inr t.sq, fun l hl => k _ _ (same_new hl _) (laidL hr hl rv)⟩
  · obtain ⟨ys, e1, e2⟩ := Option.map_eq_some_iff.mp e
    subst e2
    obtain ⟨u, rfl, ru⟩ := rep1 rs
    obtain ⟨a, vs, rfl, ha, rv⟩ := seqR_rep hr ru e1
    exact ⟨a, vs, rfl, .inl ha, fun l hl => k _ _ (same_new hl _) (laidL hr hl rv)⟩
  · cases e
def bTuple (xs : List M) (h : HpM) : Option M := match xs with | [.tup ys] => some (.tup ys) | [x] => (seqR h x).map .tup | _ => none
theorem fm_tuple : CallM K (fun xs H Q => ∃ p ys, xs = [.ref p] ∧ ((SqL K H p ys ∧ ∀ l, H l = none → Q (.ref l) (upd H l (.tup ys))) ∨ (SqT K H p ys ∧ Q (.ref p) H))) bTuple := by
  intro α h H xs d us Q hr rs e k
  unfold bTuple at e
  split at e
  · cases e
    obtain ⟨u, rfl, a, vs, rfl, t, rv⟩ := rep1 rs
    exact ⟨a, vs, rfl, .inr ⟨t.sq, k H _ (Same.refl _) ⟨a, vs, rfl, t, rv⟩⟩⟩
  · obtain ⟨ys, e1, e2⟩ := Option.map_eq_some_iff.mp e
    subst e2
    obtain ⟨u, rfl, ru⟩ := rep1 rs
    obtain ⟨a, vs, rfl, ha, rv⟩ := seqR_rep hr ru e1
    exact ⟨a, vs, rfl, .inl ⟨ha, fun l hl => k _ _ (same_new hl _) (laidT hr hl rv)⟩⟩
  · cases e
def tyM (h : HpM) : M → String
  | .non => "NoneType"
  | .bl _ => "bool"
  | .int _ => "int"
  | .str _ => "str"
  | .tup _ => "tuple"
  | .lst _ => "list"
  | .scr _ => "list"
  | .dct _ _ => "dict"
  | .ref k => (match h[k]? with | some (.lst _) => "list" | some (.dct _) => "dict" | none => "")
  | .ty _ => ""
def tysM : List M → Option (List String)
  | [] => some []
  | .ty c :: r => (tysM r).map (c :: ·)
  | _ => none
def okTy (c : String) : Bool := c == "str" || c == "int" || c == "bool" || c == "tuple" || c == "list"
def bInst (xs : List M) (h : HpM) : Option M := match xs with
  | [x, .ty c] => if tyM h x ≠ "" ∧ okTy c = true then some (.bl (instB (tyM h x) c)) else none
  | [x, .tup ts] => (tysM ts).bind fun cs => if tyM h x ≠ "" ∧ cs.all okTy = true then some (.bl (cs.any (instB (tyM h x)))) else none
  | _ => none
inductive TyK (K : PySem.W.Frag) (H : Hp) : V → String → Prop where
  | non : TyK K H .non "NoneType"
  | bl (x : Bool) : TyK K H (.bl x) "bool"
  | int (i : Int) : TyK K H (.int i) "int"
  | str (x : Str) : TyK K H (.str x) "str"
  | lst {a : Addr} {xs : List V} (e : SqL K H a xs) : TyK K H (.ref a) "list"
  | tup {a : Addr} {xs : List V} (e : SqT K H a xs) : TyK K H (.ref a) "tuple"
  | dK {a : Addr} {kvs : List (Key × V)} (e : H a = some (.dK kvs)) : TyK K H (.ref a) "dict"
theorem tyM_rep {α : Pl} {h : HpM} {H : Hp} {m : M} {v : V} (hr : Rl K α h H) (r : RepA K α H m v) (n : tyM h m ≠ "") : TyK K H v (tyM h m) := by
  cases m with
  | non => cases (show v = .non from r); exact .non
  | bl b => cases (show v = .bl b from r); exact .bl b
  | int b => cases (show v = .int b from r); exact .int b
  | str b => cases (show v = .str b from r); exact .str b
  | ty b => exact absurd rfl n
  | tup xs => obtain ⟨a, vs, rfl, t, _⟩ := r; exact .tup t.sq
  | lst xs => obtain ⟨a, vs, rfl, _, t, _⟩ := r; exact .lst (.of t)
  | scr xs => obtain ⟨a, rfl, t⟩ := r; exact .lst t.sq
  | dct ks xs => obtain ⟨a, vs, rfl, _, t, _⟩ := r; exact .dK t
  | ref k =>
    obtain ⟨a, ha, rfl⟩ := r
    unfold tyM at n ⊢
    dsimp only at n ⊢
    cases e : h[k]? with
    | none => rw [e] at n; exact absurd rfl n
    | some o =>
      cases o with
      | lst xs => obtain ⟨vs, hv, _⟩ := hr.obj k a _ ha e; exact .lst (.of hv)
      | dct xs => obtain ⟨vs, hv, _⟩ := hr.obj k a _ ha e; exact .dK hv
theorem TyK.name {H : Hp} {x : V} {t : String} (h : TyK K H x t) : t = "NoneType" ∨ t = "bool" ∨ t = "int" ∨ t = "str" ∨ t = "list" ∨ t = "tuple" ∨ t = "dict" := by cases h <;> simp
def rInstM (K : PySem.W.Frag) : List V → Hp → VK → Prop := fun xs H Q => (∃ x t c, xs = [x, .ty c] ∧ TyK K H x t ∧ okTy c = true ∧ Q (.bl (instB t c)) H) ∨
  ∃ (x : V) (t : String) (p : Addr) (cs : List String), xs = [x, .ref p] ∧ TyK K H x t ∧ SqT K H p (cs.map V.ty) ∧ cs.all okTy = true ∧ Q (.bl (cs.any (instB t))) H
theorem okTy_of {c : String} (h : okTy c = true) : c = "str" ∨ c = "int" ∨ c = "bool" ∨ c = "tuple" ∨ c = "list" := by
  simpa [okTy, or_assoc] using h
theorem call_instM : CallR X (.builtin "isinstance") (rInstM X.K) := by
  intro pins s σ H xs us Q I r h
  rcases h with ⟨x, t, c, rfl, ty, hc, q⟩ | ⟨x, t, p, cs, rfl, ty, hp, hc, q⟩
  · obtain ⟨u, w', rfl, ru, rw'⟩ := vals2 r
    obtain rfl : w' = Value.type c := rw'
    have e := kit_instB X.K ty.name (okTy_of hc)
    have fin : ∀ tk, EP X pins σ Q (.bool (instB t c)) { s with toks := tk } := fun tk => ⟨.bl _, H, I.tok _, rfl, q⟩
    cases ty with
    | non => cases (show u = Value.none from ru); exact PySem.W.kia_one PySem.W.kitx_none I.kIn True.intro e (fun z => nomatch z) fin
    | bl y => cases (show u = Value.bool y from ru); exact PySem.W.kia_one PySem.W.kitx_bool I.kIn True.intro e (fun z => nomatch z) fin
    | int i => obtain ⟨t, q⟩ := (show ∃ t, u = Value.int i t from ru); cases q; exact PySem.W.kia_one PySem.W.kitx_int I.kIn True.intro e (fun z => nomatch z) fin
    | str y => obtain ⟨t, q⟩ := (show ∃ t, u = Value.str y t from ru); cases q; exact PySem.W.kia_one PySem.W.kitx_str I.kIn True.intro e (fun z => nomatch z) fin
    | lst hx =>
      cases (show u = Value.ref _ from ru)
      obtain ⟨its, _, o, e1, c1, _⟩ := I.lstK hx
      exact PySem.W.kia_one PySem.W.kitx_list I.kIn ⟨o, e1, c1⟩ e (fun z => nomatch z) fin
    | tup hx =>
      cases (show u = Value.ref _ from ru)
      obtain ⟨its, _, o, e1, c1, _⟩ := I.tupK hx
      exact PySem.W.kia_one PySem.W.kitx_tuple I.kIn ⟨o, e1, c1⟩ e (fun z => nomatch z) fin
    | @dK a kvs ea =>
      cases (show u = Value.ref a from ru)
      obtain ⟨_, _, vs, _, p⟩ := (show ObjOk X.prog X.w H s.heap a (.dK kvs) from I.hok a _ ea)
      obtain ⟨o, es, ep, h1, h2, _⟩ := p
      exact PySem.W.kia_one PySem.W.kitx_dict I.kIn ⟨o, h1, h2.1⟩ e (fun z => nomatch z) fin
  · obtain ⟨u, w', rfl, ru, rw'⟩ := vals2 r
    obtain rfl : w' = Value.ref p := rw'
    have e := kitAny_of X.K ty.name (cs := cs) fun c hm => okTy_of (List.all_eq_true.mp hc c hm)
    obtain ⟨its, rv, ht⟩ := I.tupK hp
    have ei := vals_ty rv
    obtain ⟨⟨cls, dd, data, sl⟩, ho, hcl, n, hd⟩ := id ht
    simp only at hcl hd
    subst hcl hd
    rw [← ei] at e
    have fin : ∀ tk, EP X pins σ Q (.bool (cs.any (instB t))) { s with toks := tk } := fun tk => ⟨.bl _, H, I.tok _, rfl, q⟩
    cases ty with
    | non => cases (show u = Value.none from ru); exact PySem.W.kia_tup PySem.W.kitx_none I.kIn True.intro ho e (fun z => nomatch z) fin
    | bl y => cases (show u = Value.bool y from ru); exact PySem.W.kia_tup PySem.W.kitx_bool I.kIn True.intro ho e (fun z => nomatch z) fin
    | int i => obtain ⟨t, q⟩ := (show ∃ t, u = Value.int i t from ru); cases q; exact PySem.W.kia_tup PySem.W.kitx_int I.kIn True.intro ho e (fun z => nomatch z) fin
    | str y => obtain ⟨t, q⟩ := (show ∃ t, u = Value.str y t from ru); cases q; exact PySem.W.kia_tup PySem.W.kitx_str I.kIn True.intro ho e (fun z => nomatch z) fin
    | lst hx =>
      cases (show u = Value.ref _ from ru)
      obtain ⟨its, _, o, e1, c1, _⟩ := I.lstK hx
      exact PySem.W.kia_tup PySem.W.kitx_list I.kIn ⟨o, e1, c1⟩ ho e (fun z => nomatch z) fin
    | tup hx =>
      cases (show u = Value.ref _ from ru)
      obtain ⟨its, _, o, e1, c1, _⟩ := I.tupK hx
      exact PySem.W.kia_tup PySem.W.kitx_tuple I.kIn ⟨o, e1, c1⟩ ho e (fun z => nomatch z) fin
    | @dK a kvs ea =>
      cases (show u = Value.ref a from ru)
      obtain ⟨_, _, vs, _, p⟩ := (show ObjOk X.prog X.w H s.heap a (.dK kvs) from I.hok a _ ea)
      obtain ⟨o, es, ep, h1, h2, _⟩ := p
      exact PySem.W.kia_tup PySem.W.kitx_dict I.kIn ⟨o, h1, h2.1⟩ ho e (fun z => nomatch z) fin
theorem tysM_rep {α : Pl} {H : Hp} : ∀ {xs : List M} {cs : List String} {vs : List V}, tysM xs = some cs → RepAs K α H xs vs → vs = cs.map V.ty
  | [], _, vs, e, r => by cases e; exact r
  | .ty b :: xs, _, vs, e, r => by
    obtain ⟨cs, e1, e2⟩ := Option.map_eq_some_iff.mp e
    subst e2
    obtain ⟨v, q, rfl, h1, h2⟩ := r
    rw [tysM_rep e1 h2, show v = .ty b from h1]
    rfl
  | .non :: _, _, _, e, _ | .int _ :: _, _, _, e, _ | .str _ :: _, _, _, e, _ | .bl _ :: _, _, _, e, _ | .tup _ :: _, _, _, e, _ | .lst _ :: _, _, _, e, _ | .dct _ _ :: _, _, _, e, _ | .ref _ :: _, _, _, e, _ | .scr _ :: _, _, _, e, _ => by cases e
theorem fm_inst : CallM K (rInstM K) bInst := by
  intro α h H xs d us Q hr rs e k
  unfold bInst at e
  split at e
  · split at e
    · rename_i hc
      cases e
      obtain ⟨u, v, rfl, ru, rv⟩ := rep2 rs
      cases (show v = .ty _ from rv)
      exact .inl ⟨u, _, _, rfl, tyM_rep hr ru hc.1, hc.2, k H _ (Same.refl _) rfl⟩
    · cases e
  · obtain ⟨cs, e1, e⟩ := Option.bind_eq_some_iff.mp e
    split at e
    · rename_i hc
      cases e
      obtain ⟨u, v, rfl, ru, a, vs, rfl, t, rv⟩ := rep2 rs
      rw [tysM_rep e1 rv] at t
      exact .inr ⟨u, _, a, cs, rfl, tyM_rep hr ru hc.1, t.sq, hc.2, k H _ (Same.refl _) rfl⟩
    · cases e
  · cases e
end
end L2
set_option Elab.async false
set_option linter.all false
set_option maxRecDepth 100000
namespace L2
open PySem PySem.Spec PyProof.Rows
section
variable {X : Cx} {K : PySem.W.Frag}
def isL (x : M) (h : HpM) : Bool := (seqL h x).isSome
theorem isL_ty {α : Pl} {h : HpM} {H : Hp} {x : M} {v : V} (hr : Rl K α h H) (r : RepA K α H x v) (e : isL x h = true) : tyV K "list" v H := by
  obtain ⟨xs, e1⟩ := Option.isSome_iff_exists.mp e
  obtain ⟨a, vs, rfl, ha, _⟩ := seqL_rep hr r e1
  exact .inl ⟨rfl, vs, .of ha⟩
def onL (f : List M → Option (M × List M)) (x : M) (h : HpM) : Option (M × HpM) := match x with
  | .ref k => (match h[k]? with | some (.lst xs) => (f xs).map fun (d, ys) => (d, h.set k (.lst ys)) | _ => none)
  | _ => none
theorem onL_inv {f : List M → Option (M × List M)} {x : M} {h : HpM} {d : M} {h' : HpM} (e : onL f x h = some (d, h')) : ∃ k xs ys, x = .ref k ∧ h[k]? = some (.lst xs) ∧ f xs = some (d, ys) ∧ h' = h.set k (.lst ys) := by
  unfold onL at e
  split at e
  · split at e
    · rename_i hk
      obtain ⟨⟨d1, ys⟩, e1, e2⟩ := Option.map_eq_some_iff.mp e
      cases e2
      exact ⟨_, _, ys, rfl, hk, e1, rfl⟩
    · cases e
  · cases e
theorem onL_ok {α : Pl} {h : HpM} {H : Hp} {k : Nat} {a : Addr} {ys : List M} {ws : List V} {d : M} {w : V} {Q : VK} (hr : Rl K α h H) (ha : α.a[k]? = some a) (rs : RepAs K α H ys ws) (rd : RepA K α H d w)
    (q : ∀ α' H' w, Ev α α' H H' → Rl K α' (h.set k (.lst ys)) H' → RepA K α' H' d w → Q w H') : Q w (upd H a (.lst ws)) := by
  have ev : Ev α α H (upd H a (.lst ws)) := Ev.write hr (List.mem_of_getElem? ha)
  exact q α _ w ev (hr.write ha ⟨ws, upd_same, rs.ev ev⟩) (rd.ev ev)
def mAppend (x : M) (xs : List M) (h : HpM) : Option (M × HpM) := match xs with | [y] => onL (fun ys => if ys.length < 16777216 then some (.non, ys ++ [y]) else none) x h | _ => none
theorem fm_append : MtA K rAppend mAppend := by
  intro α h h' H x xs d u us Q hr rx rs e k
  unfold mAppend at e
  split at e
  · obtain ⟨q, xs, ys, rfl, hq, e1, rfl⟩ := onL_inv e
    split at e1
    · rename_i hl
      cases e1
      obtain ⟨a, ha, rfl⟩ := rx
      obtain ⟨v, rfl, rv⟩ := rep1 rs
      obtain ⟨vs, hv, rvs⟩ := hr.obj q a _ ha hq
      exact ⟨a, vs, v, rfl, rfl, hv, by rw [← rvs.length, sizeLine_eq]; exact hl, onL_ok hr ha (rvs.snoc rv) (d := .non) (w := .non) rfl k⟩
    · cases e1
  · cases e
def mExtend (x : M) (xs : List M) (h : HpM) : Option (M × HpM) := match xs with | [y] => (seqL h y).bind fun zs => onL (fun ys => if ys.length + zs.length ≤ 16777216 then some (.non, ys ++ zs) else none) x h | _ => none
theorem fm_extend : MtA K rExtend mExtend := by
  intro α h h' H x xs d u us Q hr rx rs e k
  unfold mExtend at e
  split at e
  · obtain ⟨zs, e0, e⟩ := Option.bind_eq_some_iff.mp e
    obtain ⟨q, xs, ys, rfl, hq, e1, rfl⟩ := onL_inv e
    split at e1
    · rename_i hl
      cases e1
      obtain ⟨a, ha, rfl⟩ := rx
      obtain ⟨v, rfl, rv⟩ := rep1 rs
      obtain ⟨b, ws, rfl, hb, rw'⟩ := seqL_rep hr rv e0
      obtain ⟨vs, hv, rvs⟩ := hr.obj q a _ ha hq
      exact ⟨a, b, vs, ws, rfl, rfl, hv, hb, by rw [← rvs.length, ← rw'.length, sizeLine_eq]; exact hl, onL_ok hr ha (rvs.app rw') (d := .non) (w := .non) rfl k⟩
    · cases e1
  · cases e
def gSubM (o i : FE) : FG := fun x ρ h => bnd (o ρ h) fun oo h1 => bnd (i ρ h1) fun ii h2 => match ii with
  | .int j => bnd (onL (fun ys => (ixN ys.length j).map fun q => (.non, ys.set q x)) oo h2) fun _ h3 => some (ρ, h3)
  | _ => none
theorem mg_sub {o i : Expr} {mo mi : FE} {pos : Pos} (ho : PE X o (tM X.K mo)) (hi : PE X i (tM X.K mi))
    (ha : ∀ v, assign (.Subscript o i pos) X.env v = (do
      let ov ← holding [v] (eval o X.env)
      let iv ← holding [v, ov] (eval i X.env)
      standAt pos
      holding [v, ov, iv] (setItem ov iv v)
      release [v, ov, iv] [])) : PG X (.Subscript o i pos) (gM X.K (gSubM mo mi)) := (pg_sub ho hi set_list ha).imp fun v σ H Q ⟨α, ρ, h, x, ρ', h', hσ, hr, rx, e, k⟩ => by
  obtain ⟨oo, h1, e1, e⟩ := bnd_inv e
  obtain ⟨ii, h2, e2, e⟩ := bnd_inv e
  split at e
  · obtain ⟨_, h3, e3, e⟩ := bnd_inv e
    cases e
    obtain ⟨q, xs, ys, rfl, hq, e4, rfl⟩ := onL_inv e3
    obtain ⟨j, e5, e6⟩ := Option.map_eq_some_iff.mp e4
    cases e6
    refine ⟨α, ρ, h, _, h1, hσ, hr, e1, fun α1 H1 u ev1 hr1 ru => ⟨α1, ρ, h1, _, h2, hσ.ev ev1, hr1, e2, fun α2 H2 w ev2 hr2 rw' => ?_⟩⟩
    obtain ⟨a, ha, rfl⟩ := ru
    have ha2 := ev2.ix ha
    obtain ⟨vs, hv, rvs⟩ := hr2.obj q a _ ha2 hq
    refine ⟨a, vs, _, j, rfl, rw', hv, by rw [← rvs.length]; exact e5, ?_⟩
    have ev : Ev α2 α2 H2 (upd H2 a (.lst (vs.set j v))) := Ev.write hr2 (List.mem_of_getElem? ha2)
    have evA := (ev1.trans ev2).trans ev
    exact k α2 _ σ evA (hr2.write ha2 ⟨_, upd_same, (rvs.set ((rx.ev ev1).ev ev2) j).ev ev⟩) (hσ.ev evA)
  · cases e
end
end L2
set_option Elab.async false
set_option linter.all false
set_option maxRecDepth 100000
namespace L2
open PySem PySem.Spec PyProof.Rows
def ConstM (K : PySem.W.Frag) (d : M) (u : Value) : Prop := ∃ v, RelV v u ∧ ∀ α H, RepA K α H d v
section
variable {X : Cx} {a b c e o e' : Expr} {es : List Expr} {ma mb mc me : FE} {mas : FA} {tc : FT} {ms mr : FS} {g : FG} {pos p : Pos}
theorem me_glob {x : Str} {u : Value} {d : M} (q : NmOk X.env.scope x .globalImplicit) (hm : X.mg x = some u) (r : ConstM X.K d u) : PE X (.Name x pos) (tM X.K (mC d)) := by
  obtain ⟨v, rv, rd⟩ := r
  exact me_C (pe_globk q hm rv) rd
def sPar (i j : Nat) (a : FA) : FS := fun ρ h => bnd (a ρ h) fun xs h1 => match xs with | [x, y] => some (.nx ((ρ.set i (some x)).set j (some y)), h1) | _ => none
theorem ms_par {i j : Nat} {x y : Str} {px py pt : Pos} {kt k2 pt2} (hc : X.calm = true) (hN : X.N.Nodup) (hi : X.N[i]? = some x) (hj : X.N[j]? = some y) (hij : i ≠ j)
    (hx : X.env.scope.names.lookup x = some .local) (hy : X.env.scope.names.lookup y = some .local) (ha : PA X [a, b] (aM X.K mas))
    (hw : swappedStores [.Tuple [.Name x px, .Name y py] kt pt] (.Tuple [a, b] k2 pt2) X.env = pure (some [x, y]))
    (hs : swapsWithSole [.Tuple [.Name x px, .Name y py] kt pt] (.Tuple [a, b] k2 pt2) pos.line X.env = pure false) :
    PS X (.Assign [.Tuple [.Name x px, .Name y py] kt pt] (.Tuple [a, b] k2 pt2) pos) (sM X.K (sPar i j mas)) := (ps_par hc hN hi hj hij hx hy ha hw hs).imp fun D σ H ⟨α, ρ, h, d, h', hσ, hr, e, k⟩ => by
  obtain ⟨xs, h1, e1, e⟩ := bnd_inv e
  split at e
  · cases e
    refine ⟨α, ρ, h, _, _, hσ, hr, e1, fun α1 H1 vs ev1 hr1 rs => ?_⟩
    obtain ⟨u, v, rfl, ru, rv⟩ := rep2 rs
    exact ⟨u, v, rfl, k α1 H1 ev1 hr1 _ (((hσ.ev ev1).set ru).set rv)⟩
  · cases e
end
def spLaw (K : PySem.W.Frag) : Sp := fun vs H Q _ => ∃ (a : Addr) (ns : List Int), vs = [.ref a] ∧ SqL K H a (ns.map V.int) ∧ ns.length ≤ 63 ∧ ∀ H', Q (.bl true) H'
theorem spLaw_of {K : PySem.W.Frag} {H : Hp} {a : Addr} {ns : List Int} (hl : ns.length ≤ 63) (hS : SqL K H a (ns.map V.int)) : spLaw K [.ref a] H (fun v _ => v = .bl true) fun _ _ _ => False := ⟨a, ns, rfl, hS, hl, fun _ => rfl⟩
theorem spLaw_spM {K : PySem.W.Frag} {m : FF} (hm : ∀ ns : List Int, ns.length ≤ 63 → ∃ h', m [.scr ns] [] = some (.bl true, h')) {vs : List V} {H : Hp} {Q : VK} {E : XK} (q : spLaw K vs H Q E) : spM K m vs H Q E := by
  obtain ⟨a, ns, rfl, hS, hl, k⟩ := q
  obtain ⟨h', e⟩ := hm ns hl
  refine ⟨⟨[], []⟩, [], [.scr ns], .bl true, h', ⟨_, _, rfl, ⟨a, rfl, ?_⟩, rfl⟩, ⟨rfl, by simp, by simp, by simp, fun k a o hk => by simp at hk⟩, e, fun α' H' v _ _ rv => ?_⟩
  · rcases hS with hS | hS
    · exact .inl ⟨hS, by simp, by simp⟩
    · exact .inr hS
  · cases (show v = .bl true from rv); exact k H'
end L2
set_option Elab.async false
set_option linter.all false
set_option maxRecDepth 100000
namespace L2
open PySem PySem.Spec PyProof.Rows
section
variable {X : Cx} {K : PySem.W.Frag} {mas : FA} {p pos : Pos}
def intsM : List M → Option (List Int)
  | [] => some []
  | .int z :: r => (intsM r).map (z :: ·)
  | _ => none
theorem intsM_rep {α : Pl} {H : Hp} : ∀ {xs : List M} {cs : List Int} {vs : List V}, intsM xs = some cs → RepAs K α H xs vs → vs = cs.map V.int
  | [], _, vs, e, r => by cases e; exact r
  | .int b :: xs, _, vs, e, r => by
    obtain ⟨cs, e1, e2⟩ := Option.map_eq_some_iff.mp e
    subst e2
    obtain ⟨v, q, rfl, h1, h2⟩ := r
    rw [intsM_rep e1 h2, show v = .int b from h1]
    rfl
  | .non :: _, _, _, e, _ | .str _ :: _, _, _, e, _ | .ty _ :: _, _, _, e, _ | .bl _ :: _, _, _, e, _ | .tup _ :: _, _, _, e, _ | .lst _ :: _, _, _, e, _ | .dct _ _ :: _, _, _, e, _ | .ref _ :: _, _, _, e, _ | .scr _ :: _, _, _, e, _ => by cases e
def leI (a b : Int) : Bool := decide (a ≤ b)
theorem perm_eq {α : Type} {le : α → α → Bool} (as : ∀ a b, le a b = true → le b a = true → a = b) : ∀ {xs ys : List α}, xs.Perm ys → xs.Pairwise (fun a b => le a b = true) → ys.Pairwise (fun a b => le a b = true) → xs = ys
  | [], ys, p, _, _ => by rw [List.Perm.eq_nil p.symm]
  | x :: xs, [], p, _, _ => by have := p.eq_nil; cases this
  | x :: xs, y :: ys, p, hx, hy => by
    have hxy : x = y := by
      have m1 : x ∈ y :: ys := p.mem_iff.mp List.mem_cons_self
      have m2 : y ∈ x :: xs := p.mem_iff.mpr List.mem_cons_self
      rcases List.mem_cons.mp m1 with e | e
      · exact e
      · rcases List.mem_cons.mp m2 with e' | e'
        · exact e'.symm
        · exact as x y (List.rel_of_pairwise_cons hx e') (List.rel_of_pairwise_cons hy e)
    subst hxy
    rw [perm_eq as ((List.perm_cons x).mp p) (List.Pairwise.of_cons hx) (List.Pairwise.of_cons hy)]
theorem leI_anti (a b : Int) (h : leI a b = true) (h' : leI b a = true) : a = b := by simp [leI] at h h'; omega
def sortI (ns : List Int) : List Int := ns.mergeSort leI
theorem sortI_pw (ns : List Int) : (sortI ns).Pairwise (fun a b => leI a b = true) := List.pairwise_mergeSort (fun a b c h h' => by simp [leI] at *; omega) (fun a b => by simp [leI]; omega) ns
theorem intsAre_of' {ys : List Int} : ∀ {us : List Value}, Vals (ys.map V.int) us → IntsAre us ys := by
  induction ys with
  | nil => intro us r; rw [List.map_nil] at r; cases r; exact .nil
  | cons n ns ih =>
    intro us r
    rw [List.map_cons] at r
    cases r with
    | cons r1 r2 =>
      obtain ⟨t, e⟩ := r1
      subst e
      exact .cons n t (ih r2)
theorem vals_intsM : ∀ {us : List Value} {ys : List Int}, IntsAre us ys → Vals (ys.map V.int) us
  | _, _, .nil => .nil
  | _, _, .cons n t h => .cons ⟨t, rfl⟩ (vals_intsM h)
theorem intsM_len : ∀ {xs : List M} {cs : List Int}, intsM xs = some cs → cs.length = xs.length
  | [], _, e => by cases e; rfl
  | .int b :: xs, _, e => by
    obtain ⟨cs, e1, e2⟩ := Option.map_eq_some_iff.mp e
    subst e2
    simp [intsM_len e1]
  | .non :: _, _, e | .str _ :: _, _, e | .ty _ :: _, _, e | .bl _ :: _, _, e | .tup _ :: _, _, e | .lst _ :: _, _, e | .dct _ _ :: _, _, e | .ref _ :: _, _, e | .scr _ :: _, _, e => by cases e
end
end L2
set_option Elab.async false
set_option linter.all false
set_option maxRecDepth 100000
namespace L2
open PySem
def Ens {a : Type} (x : Option (a × HpM)) (Q : a → HpM → Prop) : Prop := ∃ y h, x = some (y, h) ∧ Q y h
def Enp {a : Type} (x : Option a) (Q : a → Prop) : Prop := ∃ y, x = some y ∧ Q y
def EB (x : M) (R : Bool → Prop) : Prop := ∃ b, x = .bl b ∧ R b
def SQ (b : FS) (Q : Out → HpM → Prop) : Out → HpM → Prop
  | .nx ρ, h => Ens (b ρ h) Q
  | o, h => Q o h
def FQ (Q : M → HpM → Prop) : Out → HpM → Prop
  | .rt d, h => Q d h
  | .nx _, h => Q .non h
  | _, _ => False
section
variable {a b : Type} {Q : a → HpM → Prop} {R : M → HpM → Prop} {S : Out → HpM → Prop} {T : Bool → HpM → Prop} {U : List M → HpM → Prop} {ρ : EnvM} {h : HpM} {m ma mb mc : FE} {mas : FA} {ta tb : FT} {sa sb : FS} {d x y : M}
theorem Ens.mono {x : Option (a × HpM)} {Q Q' : a → HpM → Prop} (e : Ens x Q) (i : ∀ y h, Q y h → Q' y h) : Ens x Q' := by obtain ⟨y, h, e, q⟩ := e; exact ⟨y, h, e, i y h q⟩
theorem Ens.ret {y : a} (q : Q y h) : Ens (some (y, h)) Q := ⟨y, h, rfl, q⟩
theorem Ens.bnd {x : Option (a × HpM)} {f : a → HpM → Option (b × HpM)} {Q : b → HpM → Prop} (e : Ens x fun y h => Ens (f y h) Q) : Ens (L2.bnd x f) Q := by
  obtain ⟨y, h, rfl, e⟩ := e; exact e
theorem Enp.map {x : Option a} (e : Enp x fun y => Q y h) : Ens (x.map (·, h)) Q := by obtain ⟨y, rfl, q⟩ := e; exact ⟨y, h, rfl, q⟩
theorem e_c (q : R d h) : Ens (mC d ρ h) R := .ret q
theorem e_var {i : Nat} {v : M} (e : ρ[i]? = some (some v)) (q : R v h) : Ens (mVar i ρ h) R := ⟨v, h, by unfold mVar; rw [e], q⟩
theorem e_nil (q : U [] h) : Ens (mNil ρ h) U := .ret q
theorem e_cons (q : Ens (ma ρ h) fun x h1 => Ens (mas ρ h1) fun xs h2 => U (x :: xs) h2) : Ens (mCons ma mas ρ h) U := .bnd (q.mono fun x h1 q => .bnd (q.mono fun xs h2 q => .ret q))
theorem e_tup (q : Ens (mas ρ h) fun xs h1 => xs.length ≤ 16777216 ∧ R (.tup xs) h1) : Ens (mTup mas ρ h) R := .bnd (q.mono fun xs h1 q => by rw [if_pos q.1]; exact .ret q.2)
theorem e_lst (q : Ens (mas ρ h) fun xs h1 => xs.length ≤ 16777216 ∧ R (.lst xs) h1) : Ens (mLst mas ρ h) R := .bnd (q.mono fun xs h1 q => by rw [if_pos q.1]; exact .ret q.2)
theorem e_lstH (q : Ens (mas ρ h) fun xs h1 => xs.length ≤ 16777216 ∧ R (.ref h1.length) (h1 ++ [.lst xs])) : Ens (mLstH mas ρ h) R := .bnd (q.mono fun xs h1 q => by rw [if_pos q.1]; exact .ret q.2)
theorem e_op {f : M → M → HpM → Option M} (q : Ens (ma ρ h) fun x h1 => Ens (mb ρ h1) fun y h2 => Enp (f x y h2) fun d => R d h2) : Ens (mOp f ma mb ρ h) R := .bnd (q.mono fun x h1 q => .bnd (q.mono fun y h2 q => q.map))
theorem e_un {f : M → HpM → Option M} (q : Ens (ma ρ h) fun x h1 => Enp (f x h1) fun d => R d h1) : Ens (mUn f ma ρ h) R := .bnd (q.mono fun x h1 q => q.map)
theorem e_cb {f : List M → HpM → Option M} (q : Ens (mas ρ h) fun xs h1 => Enp (f xs h1) fun d => R d h1) : Ens (mCB f mas ρ h) R := .bnd (q.mono fun x h1 q => q.map)
theorem e_call {f : FF} (q : Ens (mas ρ h) fun xs h1 => Ens (f xs h1) R) : Ens (mCall f mas ρ h) R := .bnd q
theorem e_mt {ok : M → HpM → Bool} {f : M → List M → HpM → Option (M × HpM)} (q : Ens (ma ρ h) fun x h1 => ok x h1 = true ∧ Ens (mas ρ h1) fun xs h2 => Ens (f x xs h2) R) : Ens (mMt ok f ma mas ρ h) R := .bnd (q.mono fun x h1 q => by rw [if_pos q.1]; exact .bnd q.2)
theorem e_asB {f : Bool → Option (a × HpM)} (q : EB x fun c => Ens (f c) Q) : Ens (asB x f) Q := by obtain ⟨c, rfl, q⟩ := q; exact q
theorem e_eb {c : Bool} {R : Bool → Prop} (q : R c) : EB (.bl c) R := ⟨c, rfl, q⟩
theorem e_and (q : Ens (ma ρ h) fun x h1 => EB x fun c => if c = true then Ens (mb ρ h1) R else R (.bl false) h1) : Ens (mAnd ma mb ρ h) R := .bnd (q.mono fun x h1 q => e_asB (by
  obtain ⟨c, rfl, q⟩ := q
  refine ⟨c, rfl, ?_⟩
  cases c
  · exact .ret q
  · exact q))
theorem e_not (q : Ens (ma ρ h) fun x h1 => EB x fun c => R (.bl (!c)) h1) : Ens (mNot ma ρ h) R := .bnd (q.mono fun x h1 q => e_asB (by
  obtain ⟨c, rfl, q⟩ := q
  exact ⟨c, rfl, .ret q⟩))
theorem e_ifE (q : Ens (ta ρ h) fun c h1 => if c = true then Ens (ma ρ h1) R else Ens (mb ρ h1) R) : Ens (mIf ta ma mb ρ h) R := .bnd (q.mono fun c h1 q => by cases c <;> exact q)
theorem e_chain {f g : M → M → HpM → Option M} (q : Ens (ma ρ h) fun x h1 => Ens (mb ρ h1) fun y h2 => Enp (f x y h2) fun z => EB z fun k => if k = true then Ens (mc ρ h2) fun w h3 => Enp (g y w h3) fun d => R d h3 else R (.bl false) h2) : Ens (mChain f g ma mb mc ρ h) R :=
  .bnd (q.mono fun x h1 q => .bnd (q.mono fun y h2 q => by
    obtain ⟨z, e, k, rfl, q⟩ := q
    rw [e, Option.bind_some]
    refine e_asB ⟨k, rfl, ?_⟩
    cases k
    · exact .ret q
    · exact .bnd (q.mono fun w h3 q => q.map)))
theorem e_tV (q : Ens (ma ρ h) fun x h1 => EB x fun c => T c h1) : Ens (tV ma ρ h) T := .bnd (q.mono fun x h1 q => e_asB (by obtain ⟨c, rfl, q⟩ := q; exact ⟨c, rfl, .ret q⟩))
theorem e_tAnd (q : Ens (ta ρ h) fun c h1 => if c = true then Ens (tb ρ h1) T else T false h1) : Ens (tAndM ta tb ρ h) T := .bnd (q.mono fun c h1 q => by cases c; exact .ret q; exact q)
theorem e_tOr (q : Ens (ta ρ h) fun c h1 => if c = true then T true h1 else Ens (tb ρ h1) T) : Ens (tOrM ta tb ρ h) T := .bnd (q.mono fun c h1 q => by cases c; exact q; exact .ret q)
theorem e_tNot (q : Ens (ta ρ h) fun c h1 => T (!c) h1) : Ens (tNotM ta ρ h) T := .bnd (q.mono fun c h1 q => .ret q)
theorem e_oNo {O : Option Int → HpM → Prop} (q : O none h) : Ens (oNo ρ h) O := .ret q
theorem e_oSome {O : Option Int → HpM → Prop} (q : Ens (ma ρ h) fun x h1 => ∃ i, x = .int i ∧ O (some i) h1) : Ens (oSome ma ρ h) O := .bnd (q.mono fun x h1 q => by obtain ⟨i, rfl, q⟩ := q; exact .ret q)
theorem e_sl {f : M → Option Int → Option Int → HpM → Option M} {lo hi : FO} (q : Ens (ma ρ h) fun x h1 => Ens (lo ρ h1) fun l h2 => Ens (hi ρ h2) fun u h3 => Enp (f x l u h3) fun d => R d h3) : Ens (mSl f ma lo hi ρ h) R :=
  .bnd (q.mono fun x h1 q => .bnd (q.mono fun l h2 q => .bnd (q.mono fun u h3 q => q.map)))
theorem e_next (q : S (.nx ρ) h) : Ens (sNext ρ h) S := .ret q
theorem e_ret (q : Ens (ma ρ h) fun x h1 => S (.rt x) h1) : Ens (sRet ma ρ h) S := .bnd (q.mono fun x h1 q => .ret q)
theorem e_drop (q : Ens (ma ρ h) fun _ h1 => S (.nx ρ) h1) : Ens (sDrop ma ρ h) S := .bnd (q.mono fun x h1 q => .ret q)
theorem e_seq (q : Ens (sa ρ h) (SQ sb S)) : Ens (sSeq sa sb ρ h) S := .bnd (q.mono fun o h1 q => by
  cases o with
  | nx ρ' => exact q
  | bk ρ' => exact .ret q
  | ct ρ' => exact .ret q
  | rt d => exact .ret q)
theorem e_sqN (q : Ens (sb ρ h) S) : SQ sb S (.nx ρ) h := q
theorem e_sqR (q : S (.rt d) h) : SQ sb S (.rt d) h := q
theorem e_fqR (q : R d h) : FQ R (.rt d) h := q
theorem e_sif (q : Ens (ta ρ h) fun c h1 => if c = true then Ens (sa ρ h1) S else Ens (sb ρ h1) S) : Ens (sIf ta sa sb ρ h) S := .bnd (q.mono fun c h1 q => by cases c <;> exact q)
theorem e_asg {g : FG} (q : Ens (ma ρ h) fun x h1 => Ens (g x ρ h1) fun ρ' h2 => S (.nx ρ') h2) : Ens (sAsg ma g ρ h) S := .bnd (q.mono fun x h1 q => .bnd (q.mono fun ρ' h2 q => .ret q))
theorem e_nm {i : Nat} {G : EnvM → HpM → Prop} (q : G (ρ.set i (some x)) h) : Ens (gNm i x ρ h) G := .ret q
theorem e_gnil {G : EnvM → HpM → Prop} (q : G ρ h) : Ens (gsNil [] ρ h) G := .ret q
theorem e_gcons {g : FG} {gs : FGs} {xs : List M} {G : EnvM → HpM → Prop} (q : Ens (g x ρ h) fun ρ' h' => Ens (gs xs ρ' h') G) : Ens (gsCons g gs (x :: xs) ρ h) G := .bnd q
theorem e_gtp {n : Nat} {gs : FGs} {xs : List M} {G : EnvM → HpM → Prop} (e : xs.length = n) (q : Ens (gs xs ρ h) G) : Ens (gTp n gs (.tup xs) ρ h) G := by show Ens (if xs.length = n then _ else _) G; rw [if_pos e]; exact q
theorem e_par {i j : Nat} (q : Ens (mas ρ h) fun xs h1 => ∃ x y, xs = [x, y] ∧ S (.nx ((ρ.set i (some x)).set j (some y))) h1) : Ens (sPar i j mas ρ h) S := .bnd (q.mono fun xs h1 q => by obtain ⟨x, y, rfl, q⟩ := q; exact .ret q)
theorem e_gsub {o i : FE} {G : EnvM → HpM → Prop} (q : Ens (o ρ h) fun oo h1 => Ens (i ρ h1) fun ii h2 => ∃ k j xs q, oo = .ref k ∧ ii = .int j ∧ h2[k]? = some (.lst xs) ∧ ixN xs.length j = some q ∧ G ρ (h2.set k (.lst (xs.set q x)))) : Ens (gSubM o i x ρ h) G :=
  .bnd (q.mono fun oo h1 q => .bnd (q.mono fun ii h2 q => by
    obtain ⟨k, j, xs, q, rfl, rfl, e1, e2, q'⟩ := q
    exact ⟨ρ, _, by unfold onL; dsimp only; rw [e1]; dsimp only; rw [e2]; rfl, q'⟩))
theorem e_fun {n k : Nat} {ds : List M} (e : ds.length = n) (q : Ens (sa (ds.map some ++ List.replicate k none) h) (FQ R)) : Ens (mFun n k sa ds h) R := by
  unfold mFun
  rw [if_pos e]
  refine .bnd (q.mono fun o h1 q => ?_)
  cases o with
  | nx ρ' => exact .ret q
  | bk ρ' => exact q.elim
  | ct ρ' => exact q.elim
  | rt d => exact .ret q
def LQ (I : EnvM → HpM → Prop) (S : Out → HpM → Prop) : Out → HpM → Prop
  | .nx ρ, h => I ρ h
  | .ct ρ, h => I ρ h
  | .bk ρ, h => S (.nx ρ) h
  | .rt d, h => S (.rt d) h
theorem e_loop {xs : List M} {bd : M → FS} (I : Nat → EnvM → HpM → Prop) : ∀ {l : List M} {i : Nat} {ρ : EnvM} {h : HpM}, l = xs.drop i → i ≤ xs.length → I i ρ h →
    (∀ i x ρ h, xs[i]? = some x → I i ρ h → Ens (bd x ρ h) (LQ (I (i + 1)) S)) → (∀ ρ h, I xs.length ρ h → S (.nx ρ) h) → Ens (mLoop xs none bd l ρ h) S
  | [], i, ρ, h, e, hi, hI, _, hd => by
    have : i = xs.length := by
      have := congrArg List.length e
      simp at this; omega
    subst this
    unfold mLoop
    rw [if_pos (show okS xs none h from trivial)]
    exact .ret (hd ρ h hI)
  | x :: r, i, ρ, h, e, hi, hI, hs, hd => by
    have hx : xs[i]? = some x := by
      have := congrArg (fun l : List M => l[0]?) e
      simpa using this.symm
    have hr : r = xs.drop (i + 1) := by
      have := congrArg List.tail e
      simpa using this
    have hlt : i < xs.length := (List.getElem?_eq_some_iff.mp hx).1
    unfold mLoop
    rw [if_pos (show okS xs none h from trivial)]
    refine .bnd ((hs i x ρ h hx hI).mono fun o h1 q => ?_)
    cases o with
    | nx ρ' => exact e_loop I hr hlt q hs hd
    | ct ρ' => exact e_loop I hr hlt q hs hd
    | bk ρ' => exact .ret q
    | rt d => exact .ret q
theorem e_for {i : FI} {g : FG} (q : Ens (i ρ h) fun s h1 => Ens (mLoop s.1 s.2 (fun x ρ h => L2.bnd (g x ρ h) fun ρ' h' => sa ρ' h') s.1 ρ h1) S) : Ens (sFor i g sa ρ h) S := .bnd q
theorem e_body {g : FG} (q : Ens (g x ρ h) fun ρ' h' => Ens (sa ρ' h') S) : Ens (L2.bnd (g x ρ h) fun ρ' h' => sa ρ' h') S := .bnd q
theorem e_over {xs : List M} {bd : M → FS} (I : Nat → EnvM → HpM → Prop) (h0 : I 0 ρ h) (hs : ∀ i x ρ h, xs[i]? = some x → I i ρ h → Ens (bd x ρ h) (LQ (I (i + 1)) S)) (hd : ∀ ρ h, I xs.length ρ h → S (.nx ρ) h) : Ens (mLoop xs none bd xs ρ h) S :=
  e_loop I (i := 0) (by simp) (Nat.zero_le _) h0 hs hd
abbrev SI := (List M × Option Nat) → HpM → Prop
theorem e_iT {s : SI} (q : Ens (ma ρ h) fun x h1 => ∃ xs, x = .tup xs ∧ s (xs, none) h1) : Ens (iT ma ρ h) s := .bnd (q.mono fun x h1 q => by obtain ⟨xs, rfl, q⟩ := q; exact .ret q)
theorem e_iR1 {s : SI} (q : Ens (mas ρ h) fun xs h1 => ∃ j : Int, xs = [.int j] ∧ (-4611686018427387904 ≤ j ∧ j < 4611686018427387904) ∧ s ((List.range j.toNat).map fun (i : Nat) => M.int (i : Int), none) h1) : Ens (iR1 mas ρ h) s := .bnd (q.mono fun x h1 q => by
  obtain ⟨j, rfl, hj, q⟩ := q
  show Ens (if _ then _ else _) s
  rw [if_pos hj]; exact .ret q)
theorem e_comps {xs : List M} {g : FG} {c : FT} {e : FE} {τ : EnvM} {V : List M → HpM → Prop} (J : Nat → List M → HpM → Prop) : ∀ {l : List M} {i : Nat} {acc : List M} {h : HpM}, l = xs.drop i → i ≤ xs.length → J i acc h →
    (∀ i x acc h, xs[i]? = some x → J i acc h → Ens (g x τ h) fun τ' h1 => Ens (c τ' h1) fun t h2 => if t = true then Ens (e τ' h2) fun y h3 => J (i + 1) (acc ++ [y]) h3 else J (i + 1) acc h2) →
    (∀ acc h, J xs.length acc h → V acc h) → Ens (mComps xs none g c e τ l h) fun ys h' => V (acc ++ ys) h'
  | [], i, acc, h, e, hi, hJ, _, hd => by
    have : i = xs.length := by
      have := congrArg List.length e
      simp at this; omega
    subst this
    unfold mComps
    rw [if_pos (show okS xs none h from trivial)]
    refine .ret ?_
    rw [List.append_nil]
    exact hd acc h hJ
  | x :: r, i, acc, h, e, hi, hJ, hs, hd => by
    have hx : xs[i]? = some x := by
      have := congrArg (fun l : List M => l[0]?) e
      simpa using this.symm
    have hr : r = xs.drop (i + 1) := by
      have := congrArg List.tail e
      simpa using this
    have hlt : i < xs.length := (List.getElem?_eq_some_iff.mp hx).1
    unfold mComps
    rw [if_pos (show okS xs none h from trivial)]
    refine .bnd ((hs i x acc h hx hJ).mono fun τ' h1 q => .bnd (q.mono fun t h2 q => ?_))
    cases t with
    | false => exact e_comps J hr hlt q hs hd
    | true =>
      refine .bnd (q.mono fun y h3 q => .bnd ((e_comps J hr hlt q hs hd).mono fun ys h4 q => .ret ?_))
      simpa using q
theorem e_comp {ix : List (Option Nat)} {i : FI} {g : FG} {c : FT} {e : FE} (q : Ens (i ρ h) fun s h1 => s.1.length ≤ 16777216 ∧ Ens (mComps s.1 s.2 g c e (tauM ix ρ) s.1 h1) fun ys h2 => R (.lst ys) h2) : Ens (mComp ix i g c e ρ h) R :=
  .bnd (q.mono fun s h1 q => by rw [if_pos q.1]; exact .bnd (q.2.mono fun ys h2 q => .ret q))
theorem e_over2 {xs : List M} {g : FG} {c : FT} {e : FE} {τ : EnvM} {V : List M → HpM → Prop} (J : Nat → List M → HpM → Prop) (h0 : J 0 [] h)
    (hs : ∀ i x acc h, xs[i]? = some x → J i acc h → Ens (g x τ h) fun τ' h1 => Ens (c τ' h1) fun t h2 => if t = true then Ens (e τ' h2) fun y h3 => J (i + 1) (acc ++ [y]) h3 else J (i + 1) acc h2)
    (hd : ∀ acc h, J xs.length acc h → V acc h) : Ens (mComps xs none g c e τ xs h) V := (e_comps (V := V) J (i := 0) (acc := []) (by simp) (Nat.zero_le _) h0 hs hd).mono fun ys h q => by simpa using q
theorem e_while {c : FT} {bd : FS} (I : EnvM → HpM → Prop) (μ : EnvM → HpM → Nat) (hs : ∀ ρ h, I ρ h → Ens (c ρ h) fun t h1 => if t = true then Ens (bd ρ h1) (LQ (fun ρ' h' => I ρ' h' ∧ μ ρ' h' < μ ρ h) S) else S (.nx ρ) h1) : ∀ {N : Nat} {ρ : EnvM} {h : HpM}, I ρ h → μ ρ h < N → Ens (mWhile c bd N ρ h) S
  | 0, ρ, h, _, hN => by omega
  | N + 1, ρ, h, hI, hN => by
    unfold mWhile
    refine .bnd ((hs ρ h hI).mono fun t h1 q => ?_)
    cases t with
    | false => exact .ret q
    | true =>
      refine .bnd (q.mono fun o h2 q => ?_)
      cases o with
      | nx ρ' => exact e_while I μ hs q.1 (by have := q.2; omega)
      | ct ρ' => exact e_while I μ hs q.1 (by have := q.2; omega)
      | bk ρ' => exact .ret q
      | rt d => exact .ret q
end
section
variable {R : M → Prop} {h : HpM}
theorem p_addI {i j : Int} (q : R (.int (i + j))) : Enp (opAdd (.int i) (.int j) h) R := ⟨_, rfl, q⟩
theorem p_subI {i j : Int} (q : R (.int (i - j))) : Enp (opSub (.int i) (.int j) h) R := ⟨_, rfl, q⟩
theorem p_mulI {i j : Int} (e : (-18446744073709551616 < i ∧ i < 18446744073709551616) ∨ (-18446744073709551616 < j ∧ j < 18446744073709551616)) (q : R (.int (i * j))) : Enp (opMul (.int i) (.int j) h) R := ⟨_, if_pos e, q⟩
theorem p_mod {i j : Int} (e : 0 < j) (q : R (.int (i % j))) : Enp (opMod (.int i) (.int j) h) R := ⟨_, if_pos e, q⟩
theorem p_div {i j : Int} (e : 0 < j ∧ j < 1073741824) (q : R (.int (i / j))) : Enp (opDiv (.int i) (.int j) h) R := ⟨_, if_pos e, q⟩
theorem p_pow {i j : Int} (e : 0 ≤ j ∧ j ≤ 1000000 ∧ i.natAbs < 18446744073709551616) (q : R (.int (i ^ j.toNat))) : Enp (opPow (.int i) (.int j) h) R := ⟨_, if_pos e, q⟩
theorem p_ltI {i j : Int} (q : R (.bl (decide (i < j)))) : Enp (opLt (.int i) (.int j) h) R := ⟨_, rfl, q⟩
theorem p_leI {i j : Int} (q : R (.bl (decide (i ≤ j)))) : Enp (opLe (.int i) (.int j) h) R := ⟨_, rfl, q⟩
theorem p_gtI {i j : Int} (q : R (.bl (decide (j < i)))) : Enp (opGt (.int i) (.int j) h) R := ⟨_, rfl, q⟩
theorem p_geI {i j : Int} (q : R (.bl (decide (j ≤ i)))) : Enp (opGe (.int i) (.int j) h) R := ⟨_, rfl, q⟩
theorem p_eqI {i j : Int} (q : R (.bl (i == j))) : Enp (opEq (.int i) (.int j) h) R := ⟨_, rfl, q⟩
theorem p_neI {i j : Int} (q : R (.bl (!(i == j)))) : Enp (opNe (.int i) (.int j) h) R := ⟨_, rfl, q⟩
theorem p_eqS {i j : Str} (q : R (.bl (i == j))) : Enp (opEq (.str i) (.str j) h) R := ⟨_, rfl, q⟩
theorem p_neB {i j : Bool} (q : R (.bl (!(i == j)))) : Enp (opNe (.bl i) (.bl j) h) R := ⟨_, rfl, q⟩
theorem p_isN {x : M} (q : R (.bl (isN x))) : Enp (opIs x .non h) R := ⟨_, rfl, q⟩
theorem p_neg {i : Int} (q : R (.int (-i))) : Enp (opNeg (.int i) h) R := ⟨_, rfl, q⟩
theorem p_abs {i : Int} (q : R (.int (if i < 0 then -i else i))) : Enp (bAbs [.int i] h) R := ⟨_, rfl, q⟩
theorem p_intB {i : Bool} (q : R (.int (if i then 1 else 0))) : Enp (bInt [.bl i] h) R := ⟨_, rfl, q⟩
theorem p_min {i j : Int} (q : R (.int (if j < i then j else i))) : Enp (bMin [.int i, .int j] h) R := ⟨_, rfl, q⟩
theorem p_lenL {xs : List M} (q : R (.int xs.length)) : Enp (bLen [.lst xs] h) R := ⟨_, rfl, q⟩
theorem p_lenT {xs : List M} (q : R (.int xs.length)) : Enp (bLen [.tup xs] h) R := ⟨_, rfl, q⟩
theorem p_lenC {xs : List Int} (q : R (.int xs.length)) : Enp (bLen [.scr xs] h) R := ⟨_, by show some (M.int (xs.map M.int).length) = _; rw [List.length_map], q⟩
theorem p_ixR {xs : List M} {k : Nat} {i : Int} {d : M} (e0 : h[k]? = some (.lst xs)) (e : atI xs i = some d) (q : R d) : Enp (ixM (.ref k) (.int i) h) R := ⟨d, by
  unfold ixM
  rw [show dctOf h (.ref k) = none by show (match h[k]? with | some (.dct kvs) => some kvs | _ => none) = none; rw [e0]]
  show (seqR h (.ref k)).bind _ = _; rw [show seqR h (.ref k) = some xs by show (match h[k]? with | some (.lst xs) => some xs | _ => none) = some xs; rw [e0]]; exact e, q⟩
theorem p_addL {xs ys : List M} (e : xs.length + ys.length ≤ 16777216) (q : R (.lst (xs ++ ys))) : Enp (opAdd (.lst xs) (.lst ys) h) R := ⟨_, by show (if _ then _ else _) = _; rw [if_pos e], q⟩
theorem p_addT {xs ys : List M} (e : xs.length + ys.length ≤ 16777216) (q : R (.tup (xs ++ ys))) : Enp (opAdd (.tup xs) (.tup ys) h) R := ⟨_, by show (if _ then _ else _) = _; rw [if_pos e], q⟩
theorem p_slL {xs : List M} {lo hi : Option Int} (q : R (.lst (cutM xs lo hi))) : Enp (slM (.lst xs) lo hi h) R := ⟨_, rfl, q⟩
theorem p_slT {xs : List M} {lo hi : Option Int} (q : R (.tup (cutM xs lo hi))) : Enp (slM (.tup xs) lo hi h) R := ⟨_, rfl, q⟩
theorem p_inst {x : M} {c : String} (e : tyM h x ≠ "") (e2 : okTy c = true) (q : R (.bl (instB (tyM h x) c))) : Enp (bInst [x, .ty c] h) R := ⟨_, if_pos ⟨e, e2⟩, q⟩
end
theorem ite_b {A B : Prop} {c : Bool} (h1 : c = true → A) (h2 : c = false → B) : if c = true then A else B := by cases c; exact h2 rfl; exact h1 rfl
theorem ite_t {A B : Prop} (h : A) : if (true = true) then A else B := h
theorem ite_f {A B : Prop} (h : B) : if (false = true) then A else B := h
end L2
set_option Elab.async false
set_option linter.all false
namespace L2
open PySem
section
variable {R : M → Prop} {h : HpM}
theorem pi_non_int  (q : R (.bl false)) : Enp (bInst [.non, .ty "int"] h) R := p_inst (by show "NoneType" ≠ ""; decide) (by decide) (by rw [show instB (tyM h .non) "int" = false from (by show instB "NoneType" "int" = _; decide)]; exact q)
theorem pi_non_bool  (q : R (.bl false)) : Enp (bInst [.non, .ty "bool"] h) R := p_inst (by show "NoneType" ≠ ""; decide) (by decide) (by rw [show instB (tyM h .non) "bool" = false from (by show instB "NoneType" "bool" = _; decide)]; exact q)
theorem pi_non_tuple  (q : R (.bl false)) : Enp (bInst [.non, .ty "tuple"] h) R := p_inst (by show "NoneType" ≠ ""; decide) (by decide) (by rw [show instB (tyM h .non) "tuple" = false from (by show instB "NoneType" "tuple" = _; decide)]; exact q)
theorem pi_bl_int {x : Bool} (q : R (.bl true)) : Enp (bInst [(.bl x), .ty "int"] h) R := p_inst (by show "bool" ≠ ""; decide) (by decide) (by rw [show instB (tyM h (.bl x)) "int" = true from (by show instB "bool" "int" = _; decide)]; exact q)
theorem pi_bl_bool {x : Bool} (q : R (.bl true)) : Enp (bInst [(.bl x), .ty "bool"] h) R := p_inst (by show "bool" ≠ ""; decide) (by decide) (by rw [show instB (tyM h (.bl x)) "bool" = true from (by show instB "bool" "bool" = _; decide)]; exact q)
theorem pi_bl_tuple {x : Bool} (q : R (.bl false)) : Enp (bInst [(.bl x), .ty "tuple"] h) R := p_inst (by show "bool" ≠ ""; decide) (by decide) (by rw [show instB (tyM h (.bl x)) "tuple" = false from (by show instB "bool" "tuple" = _; decide)]; exact q)
theorem pi_int_int {x : Int} (q : R (.bl true)) : Enp (bInst [(.int x), .ty "int"] h) R := p_inst (by show "int" ≠ ""; decide) (by decide) (by rw [show instB (tyM h (.int x)) "int" = true from (by show instB "int" "int" = _; decide)]; exact q)
theorem pi_int_bool {x : Int} (q : R (.bl false)) : Enp (bInst [(.int x), .ty "bool"] h) R := p_inst (by show "int" ≠ ""; decide) (by decide) (by rw [show instB (tyM h (.int x)) "bool" = false from (by show instB "int" "bool" = _; decide)]; exact q)
theorem pi_int_tuple {x : Int} (q : R (.bl false)) : Enp (bInst [(.int x), .ty "tuple"] h) R := p_inst (by show "int" ≠ ""; decide) (by decide) (by rw [show instB (tyM h (.int x)) "tuple" = false from (by show instB "int" "tuple" = _; decide)]; exact q)
theorem pi_str_int {x : Str} (q : R (.bl false)) : Enp (bInst [(.str x), .ty "int"] h) R := p_inst (by show "str" ≠ ""; decide) (by decide) (by rw [show instB (tyM h (.str x)) "int" = false from (by show instB "str" "int" = _; decide)]; exact q)
theorem pi_str_bool {x : Str} (q : R (.bl false)) : Enp (bInst [(.str x), .ty "bool"] h) R := p_inst (by show "str" ≠ ""; decide) (by decide) (by rw [show instB (tyM h (.str x)) "bool" = false from (by show instB "str" "bool" = _; decide)]; exact q)
theorem pi_str_tuple {x : Str} (q : R (.bl false)) : Enp (bInst [(.str x), .ty "tuple"] h) R := p_inst (by show "str" ≠ ""; decide) (by decide) (by rw [show instB (tyM h (.str x)) "tuple" = false from (by show instB "str" "tuple" = _; decide)]; exact q)
theorem pi_tup_int {x : List M} (q : R (.bl false)) : Enp (bInst [(.tup x), .ty "int"] h) R := p_inst (by show "tuple" ≠ ""; decide) (by decide) (by rw [show instB (tyM h (.tup x)) "int" = false from (by show instB "tuple" "int" = _; decide)]; exact q)
theorem pi_tup_bool {x : List M} (q : R (.bl false)) : Enp (bInst [(.tup x), .ty "bool"] h) R := p_inst (by show "tuple" ≠ ""; decide) (by decide) (by rw [show instB (tyM h (.tup x)) "bool" = false from (by show instB "tuple" "bool" = _; decide)]; exact q)
theorem pi_tup_tuple {x : List M} (q : R (.bl true)) : Enp (bInst [(.tup x), .ty "tuple"] h) R := p_inst (by show "tuple" ≠ ""; decide) (by decide) (by rw [show instB (tyM h (.tup x)) "tuple" = true from (by show instB "tuple" "tuple" = _; decide)]; exact q)
theorem pi_lst_int {x : List M} (q : R (.bl false)) : Enp (bInst [(.lst x), .ty "int"] h) R := p_inst (by show "list" ≠ ""; decide) (by decide) (by rw [show instB (tyM h (.lst x)) "int" = false from (by show instB "list" "int" = _; decide)]; exact q)
theorem pi_lst_bool {x : List M} (q : R (.bl false)) : Enp (bInst [(.lst x), .ty "bool"] h) R := p_inst (by show "list" ≠ ""; decide) (by decide) (by rw [show instB (tyM h (.lst x)) "bool" = false from (by show instB "list" "bool" = _; decide)]; exact q)
theorem pi_lst_tuple {x : List M} (q : R (.bl false)) : Enp (bInst [(.lst x), .ty "tuple"] h) R := p_inst (by show "list" ≠ ""; decide) (by decide) (by rw [show instB (tyM h (.lst x)) "tuple" = false from (by show instB "list" "tuple" = _; decide)]; exact q)
theorem ite_nT {A B : Prop} (h : B) : if (!true) = true then A else B := h
theorem p_isNotTT (q : R (.bl false)) : Enp (opIsNot (.bl true) (.bl true) h) R := ⟨_, rfl, q⟩
theorem ite_nF {A B : Prop} (h : A) : if (!false) = true then A else B := h
theorem e_lqN {I : EnvM → HpM → Prop} {S : Out → HpM → Prop} {ρ : EnvM} (q : I ρ h) : LQ I S (.nx ρ) h := q
theorem e_lqR {I : EnvM → HpM → Prop} {S : Out → HpM → Prop} {d : M} (q : S (.rt d) h) : LQ I S (.rt d) h := q
end
end L2
set_option Elab.async false
set_option linter.all false
set_option maxRecDepth 100000
namespace L2
open PySem PySem.Spec PyProof.Rows
section
variable {X : Cx} {K : PySem.W.Frag} {a b e : Expr} {es : List Expr} {ma mb : FE} {mas : FA} {pos p : Pos}
theorem allocL {α : Pl} {h : HpM} {H : Hp} {l : Addr} {ys : List M} {vs : List V} {Q : VK} (hr : Rl K α h H) (hl : H l = none) (rs : RepAs K α H ys vs) (k : ∀ α' H' w, Ev α α' H H' → Rl K α' (h ++ [.lst ys]) H' → RepA K α' H' (.ref h.length) w → Q w H') : Q (.ref l) (upd H l (.lst vs)) := by
  have ea : Ev α (α.add l) H (upd H l (.lst vs)) := .alloc hl
  exact k (α.add l) _ _ ea (hr.alloc hl ⟨vs, upd_same, rs.ev ea⟩) ⟨l, by rw [← hr.len]; simp [Pl.add], rfl⟩
def mAddH (a b : FE) : FE := fun ρ h => bnd (a ρ h) fun x h1 => bnd (b ρ h1) fun y h2 => (seqL h2 x).bind fun xs => (seqL h2 y).bind fun ys => if xs.length + ys.length ≤ 16777216 then some (.ref h2.length, h2 ++ [.lst (xs ++ ys)]) else none
theorem me_addH (ha : PE X a (tM X.K ma)) (hb : PE X b (tM X.K mb)) : PE X (.BinOp a .Add b pos) (tM X.K (mAddH ma mb)) := (pe_op op_cat ha hb).imp fun σ H Q ⟨α, ρ, h, d, h', hσ, hr, e, k⟩ => by
  obtain ⟨x, h1, e1, e⟩ := bnd_inv e
  obtain ⟨y, h2, e2, e⟩ := bnd_inv e
  obtain ⟨xs, e3, e⟩ := Option.bind_eq_some_iff.mp e
  obtain ⟨ys, e4, e⟩ := Option.bind_eq_some_iff.mp e
  split at e
  · rename_i hl
    cases e
    refine ⟨α, ρ, h, x, h1, hσ, hr, e1, fun α1 H1 u ev1 hr1 rx => ⟨α1, ρ, h1, y, h2, hσ.ev ev1, hr1, e2, fun α2 H2 v ev2 hr2 ry => ?_⟩⟩
    obtain ⟨a, vs, rfl, ta, rs⟩ := seqL_rep hr2 (rx.ev ev2) e3
    obtain ⟨b, ws, rfl, tb, rt⟩ := seqL_rep hr2 ry e4
    exact ⟨a, b, vs, ws, rfl, rfl, ta, tb, by rw [← rs.length, ← rt.length, sizeLine_eq]; exact hl, fun l hl => allocL hr2 hl (rs.app rt) fun α' H' w ev hr' rw => k α' H' w ((ev1.trans ev2).trans ev) hr' rw⟩
  · cases e
theorem const_tup {a : Addr} {ds : List M} {vs : List V} {us : List Value} {n : Nat} {dd : Option Addr} {sl : Array (Option Value)} (hl : K.lookup a = some { cls := .type "tuple", dict := dd, data := .seq us.toArray n, slots := sl }) (hz : us.length ≤ 1000) (hv : Vals vs us) (hr : ∀ α H, RepAs K α H ds vs) : ConstM K (.tup ds) (.ref a) :=
  ⟨.ref a, rfl, fun α H => ⟨a, vs, rfl, .inr ⟨_, us.toArray, n, hl, rfl, rfl, by rw [List.size_toArray, sizeLine_eq]; omega, by simpa using hv⟩, hr α H⟩⟩
theorem const_cons {d : M} {u : Value} {ds : List M} {us : List Value} (h : ConstM K d u) (hs : ∃ vs, Vals vs us ∧ ∀ α H, RepAs K α H ds vs) : ∃ vs, Vals vs (u :: us) ∧ ∀ α H, RepAs K α H (d :: ds) vs := by
  obtain ⟨v, r, q⟩ := h
  obtain ⟨vs, rs, qs⟩ := hs
  exact ⟨v :: vs, .cons r rs, fun α H => ⟨v, vs, rfl, q α H, qs α H⟩⟩
theorem const_nil : ∃ vs, Vals vs [] ∧ ∀ α H, RepAs K α H [] vs := ⟨[], .nil, fun _ _ => rfl⟩
theorem const_of {a : Addr} {ds : List M} {us : List Value} {n : Nat} {dd : Option Addr} {sl : Array (Option Value)} (hl : K.lookup a = some { cls := .type "tuple", dict := dd, data := .seq us.toArray n, slots := sl }) (hz : us.length ≤ 1000) (h : ∃ vs, Vals vs us ∧ ∀ α H, RepAs K α H ds vs) : ConstM K (.tup ds) (.ref a) := by
  obtain ⟨vs, hv, hr⟩ := h
  exact const_tup hl hz hv hr
theorem const_str {z : Str} {t : Tok} : ConstM K (.str z) (.str z t) := ⟨.str z, ⟨t, rfl⟩, fun _ _ => rfl⟩
end
section
variable {R : M → HpM → Prop} {ρ : EnvM} {h : HpM} {ma mb : FE} {mas : FA}
theorem e_addH (q : Ens (ma ρ h) fun x h1 => Ens (mb ρ h1) fun y h2 => ∃ xs ys, seqL h2 x = some xs ∧ seqL h2 y = some ys ∧ xs.length + ys.length ≤ 16777216 ∧ R (.ref h2.length) (h2 ++ [.lst (xs ++ ys)])) : Ens (mAddH ma mb ρ h) R := .bnd (q.mono fun x h1 q => .bnd (q.mono fun y h2 q => by
  obtain ⟨xs, ys, e1, e2, hl, q⟩ := q
  exact ⟨_, _, by rw [e1, Option.bind_some, e2, Option.bind_some, if_pos hl], q⟩))
end
end L2
set_option Elab.async false
set_option linter.all false
set_option maxRecDepth 100000
namespace L2
open PySem PySem.Spec PyProof.Rows
structure Cal (P : Program) (w : World) (K : PySem.W.Frag) (mg : Str → Option Value) (base : Heap) (n : Nat) (x : Str) (m : FF) : Prop where
  ex : ∃ f fd ps, FnOk P w K mg base CX0 n f fd ps (spM K m) ∧ mg x = some (.ref f) ∧ PySem.W.keepIn K (.ref f) = true ∧ Binds K fd ps []
theorem Cal.of {P : Program} {w : World} {K : PySem.W.Frag} {mg : Str → Option Value} {base : Heap} {n : Nat} {x : Str} {m : FF} {f : Addr} {fd : FuncData} {ps : List Str} (F : FnOk P w K mg base CX0 n f fd ps (spM K m)) (h1 : mg x = some (.ref f)) (h2 : PySem.W.keepIn K (.ref f) = true) (h3 : Binds K fd ps []) : Cal P w K mg base n x m := ⟨f, fd, ps, F, h1, h2, h3⟩
section
variable {X : Cx} {e : Expr} {es : List Expr} {mas : FA} {pos p : Pos} {n : Nat} {x : Str} {m : FF}
theorem me_cal (C : Cal X.prog X.w X.K X.mg X.base n x m) (hr : Room n X.A) (q : NmOk X.env.scope x .globalImplicit) (ha : PA X (e :: es) (aM X.K mas)) (he : notStar e = true) (hpl : (backTo pos (starEach es X.env)).any (·.1) = false) : PE X (.Call (.Name x p) (e :: es) [] pos) (tM X.K (mCall m mas)) := by
  obtain ⟨f, fd, ps, F, h1, h2, h3⟩ := C.ex
  exact me_call F hr q h1 h2 h3 pass0 ha he hpl
end
end L2
set_option Elab.async false
set_option linter.all false
set_option maxRecDepth 100000
namespace L2
open PySem
def Kp (p : Nat) (h h' : HpM) : Prop := h'.length = h.length ∧ ∀ q, q ≠ p → h'[q]? = h[q]?
theorem Kp.set {p : Nat} {h : HpM} {o : MO} : Kp p h (h.set p o) := ⟨by simp, fun q hq => List.getElem?_set_ne (Ne.symm hq)⟩
theorem set_at {p : Nat} {h : HpM} {o o' : MO} (e : h[p]? = some o) : (h.set p o')[p]? = some o' := List.getElem?_set_self (List.getElem?_eq_some_iff.mp e).1
theorem e_put {o i : FE} {x : M} {ρ : EnvM} {h : HpM} {G : EnvM → HpM → Prop} {k : Nat} {j : Int} {xs : List M} {n : Nat} (ho : o ρ h = some (.ref k, h)) (hi : i ρ h = some (.int j, h)) (e1 : h[k]? = some (.lst xs)) (e2 : ixN xs.length j = some n)
    (q : ∀ h', h'[k]? = some (.lst (xs.set n x)) → Kp k h h' → G ρ h') : Ens (gSubM o i x ρ h) G :=
  e_gsub ⟨_, _, ho, _, _, hi, k, j, xs, n, rfl, rfl, e1, e2, q _ (set_at e1) Kp.set⟩
theorem join {x : Option (Out × HpM)} {S : Out → HpM → Prop} (J : Out → HpM → Prop) (h1 : Ens x J) (h2 : ∀ o h, J o h → S o h) : Ens x S := h1.mono h2
theorem cut_to {xs : List M} {k : Nat} (hk : k ≤ xs.length) : cutM xs none (some (k : Int)) = xs.take k := by
  unfold cutM; rw [HT.sIx_none, HT.sIx_nat, Nat.min_eq_left hk]; simp
theorem ens_eq {a : Type} {x : Option (a × HpM)} {y : a} {h : HpM} {Q : a → HpM → Prop} (e : x = some (y, h)) (q : Q y h) : Ens x Q := ⟨y, h, e, q⟩
def pureB : Nat → M → Bool
  | _, .non => true
  | _, .bl _ => true
  | _, .int _ => true
  | _, .str z => decide (z.length ≤ 100)
  | k + 1, .tup xs => decide (xs.length ≤ 1000) && xs.all (pureB k)
  | k + 1, .lst xs => decide (xs.length ≤ 1000) && xs.all (pureB k)
  | _, _ => false
def Pu (k : Nat) (x : M) : Prop := pureB k x = true
theorem Pu.tup {k : Nat} {xs : List M} (hl : xs.length ≤ 1000) (h : ∀ y ∈ xs, Pu k y) : Pu (k + 1) (.tup xs) := by
  show (decide (xs.length ≤ 1000) && xs.all (pureB k)) = true
  rw [Bool.and_eq_true, List.all_eq_true]; exact ⟨decide_eq_true hl, h⟩
theorem Pu.lst {k : Nat} {xs : List M} (hl : xs.length ≤ 1000) (h : ∀ y ∈ xs, Pu k y) : Pu (k + 1) (.lst xs) := by
  show (decide (xs.length ≤ 1000) && xs.all (pureB k)) = true
  rw [Bool.and_eq_true, List.all_eq_true]; exact ⟨decide_eq_true hl, h⟩
theorem Pu.un {k : Nat} {xs : List M} (h : Pu (k + 1) (.tup xs)) : ∀ y ∈ xs, Pu k y := by
  have : (decide (xs.length ≤ 1000) && xs.all (pureB k)) = true := h
  rw [Bool.and_eq_true, List.all_eq_true] at this; exact this.2
theorem Pu.tupl {k : Nat} {xs : List M} (h : Pu k (.tup xs)) : xs.length ≤ 1000 := by
  cases k with
  | zero => cases h
  | succ k =>
    have : (decide (xs.length ≤ 1000) && xs.all (pureB k)) = true := h
    rw [Bool.and_eq_true] at this; exact of_decide_eq_true this.1
theorem Pu.unL {k : Nat} {xs : List M} (h : Pu (k + 1) (.lst xs)) : ∀ y ∈ xs, Pu k y := by
  have : (decide (xs.length ≤ 1000) && xs.all (pureB k)) = true := h
  rw [Bool.and_eq_true, List.all_eq_true] at this; exact this.2
theorem Pu.lstl {k : Nat} {xs : List M} (h : Pu k (.lst xs)) : xs.length ≤ 1000 := by
  cases k with
  | zero => cases h
  | succ k =>
    have : (decide (xs.length ≤ 1000) && xs.all (pureB k)) = true := h
    rw [Bool.and_eq_true] at this; exact of_decide_eq_true this.1
theorem Pu.zero {xs : List M} (h : Pu 0 (.tup xs)) : False := by cases h
theorem Pu.mono1 : ∀ {k : Nat} {x : M}, Pu k x → Pu (k + 1) x
  | 0, .non, _ => rfl
  | 0, .bl _, _ => rfl
  | 0, .int _, _ => rfl
  | 0, .str _, h => h
  | 0, .tup _, h => by cases h
  | 0, .lst _, h => by cases h
  | 0, .dct _ _, h => by cases h
  | 0, .ref _, h => by cases h
  | 0, .scr _, h => by cases h
  | 0, .ty _, h => by cases h
  | k + 1, .non, _ => rfl
  | k + 1, .bl _, _ => rfl
  | k + 1, .int _, _ => rfl
  | k + 1, .str _, h => h
  | k + 1, .tup xs, h => Pu.tup h.tupl fun y hy => (h.un y hy).mono1
  | k + 1, .lst xs, h => Pu.lst h.lstl fun y hy => (h.unL y hy).mono1
  | k + 1, .dct _ _, h => by cases h
  | k + 1, .ref _, h => by cases h
  | k + 1, .scr _, h => by cases h
  | k + 1, .ty _, h => by cases h
theorem Pu.mono {k m : Nat} {x : M} (h : Pu k x) (hm : k ≤ m) : Pu m x := by
  induction hm with
  | refl => exact h
  | step _ ih => exact ih.mono1
theorem Pu.str {k : Nat} {z : Str} (h : z.length ≤ 100) : Pu k (.str z) := by cases k <;> exact decide_eq_true h
theorem Pu.int {k : Nat} {i : Int} : Pu k (.int i) := by cases k <;> rfl
theorem Pu.bl {k : Nat} {i : Bool} : Pu k (.bl i) := by cases k <;> rfl
theorem Pu.non {k : Nat} : Pu k .non := by cases k <;> rfl
theorem Pu.toD : ∀ {k : Nat} {x : M} (h : HpM), Pu k x → ∃ d, L2.toD h x = some d ∧ d.deep ≤ k ∧ match x with | .str z => d = .str z | .int i => d = .int i | .bl b => d = .bl b | .non => d = .non | .tup xs => ∃ ds, d = .tup ds | .lst xs => ∃ ds, d = .lst ds | _ => False
  | k, .non, h, _ => ⟨_, rfl, Nat.zero_le _, rfl⟩
  | k, .bl _, h, _ => ⟨_, rfl, Nat.zero_le _, rfl⟩
  | k, .int _, h, _ => ⟨_, rfl, Nat.zero_le _, rfl⟩
  | k, .str _, h, _ => ⟨_, rfl, Nat.zero_le _, rfl⟩
  | 0, .tup _, h, p => by cases p
  | 0, .lst _, h, p => by cases p
  | k + 1, .tup xs, h, p => by
    have hs : ∀ ys : List M, (∀ y ∈ ys, Pu k y) → ∃ ds, toDBs (lookD h 20) ys = some ds ∧ D.deeps ds ≤ k := by
      intro ys
      induction ys with
      | nil => exact fun _ => ⟨[], rfl, Nat.zero_le _⟩
      | cons y ys ih =>
        intro hy
        obtain ⟨d, e, dd, _⟩ := Pu.toD (k := k) (x := y) h (hy y List.mem_cons_self)
        obtain ⟨ds, es, dds⟩ := ih fun z hz => hy z (List.mem_cons_of_mem _ hz)
        refine ⟨d :: ds, ?_, Nat.max_le.mpr ⟨dd, dds⟩⟩
        unfold toDBs
        rw [show toDB (lookD h 20) y = some d from e, Option.bind_some, es]; rfl
    obtain ⟨ds, e, dd⟩ := hs xs p.un
    refine ⟨.tup ds, ?_, Nat.succ_le_succ dd, ds, rfl⟩
    show (toDBs (lookD h 20) xs).map D.tup = _
    rw [e]; rfl
  | k + 1, .lst xs, h, p => by
    have hs : ∀ ys : List M, (∀ y ∈ ys, Pu k y) → ∃ ds, toDBs (lookD h 20) ys = some ds ∧ D.deeps ds ≤ k := by
      intro ys
      induction ys with
      | nil => exact fun _ => ⟨[], rfl, Nat.zero_le _⟩
      | cons y ys ih =>
        intro hy
        obtain ⟨d, e, dd, _⟩ := Pu.toD (k := k) (x := y) h (hy y List.mem_cons_self)
        obtain ⟨ds, es, dds⟩ := ih fun z hz => hy z (List.mem_cons_of_mem _ hz)
        refine ⟨d :: ds, ?_, Nat.max_le.mpr ⟨dd, dds⟩⟩
        unfold toDBs
        rw [show toDB (lookD h 20) y = some d from e, Option.bind_some, es]; rfl
    obtain ⟨ds, e, dd⟩ := hs xs p.unL
    refine ⟨.lst ds, ?_, Nat.succ_le_succ dd, ds, rfl⟩
    show (toDBs (lookD h 20) xs).map D.lst = _
    rw [e]; rfl
  | 0, .dct _ _, h, p => by cases p
  | 0, .ref _, h, p => by cases p
  | 0, .scr _, h, p => by cases p
  | 0, .ty _, h, p => by cases p
  | k + 1, .dct _ _, h, p => by cases p
  | k + 1, .ref _, h, p => by cases p
  | k + 1, .scr _, h, p => by cases p
  | k + 1, .ty _, h, p => by cases p
def isTx (s : Str) : M → Bool
  | .str z => z == s
  | _ => false
def inTx (ss : List Str) : M → Bool
  | .str z => ss.any (· == z)
  | _ => false
section
variable {R : M → Prop} {h : HpM} {k : Nat} {x : M}
theorem p_eqT {s : Str} (hx : Pu k x) (hk : k ≤ 150) (q : R (.bl (isTx s x))) : Enp (opEq x (.str s) h) R := by
  obtain ⟨d, e, dd, sh⟩ := hx.toD h
  refine ⟨.bl (isTx s x), ?_, q⟩
  unfold opEq
  rw [e, Option.bind_some]
  show (if d.deep ≤ 150 then some (M.bl (deq d (.str s))) else none) = _
  rw [if_pos (by omega)]
  cases x with
  | non => cases (show d = _ from sh); rfl
  | bl _ => cases (show d = _ from sh); rfl
  | int _ => cases (show d = _ from sh); rfl
  | str _ => cases (show d = _ from sh); rfl
  | tup _ => obtain ⟨ds, rfl⟩ := sh; rfl
  | lst _ => obtain ⟨ds, rfl⟩ := sh; rfl
  | _ => exact sh.elim
theorem anyTx {d : D} : ∀ {ss : List Str}, (match x with | .str z => d = .str z | .int i => d = .int i | .bl b => d = .bl b | .non => d = .non | .tup xs => ∃ ds, d = .tup ds | .lst xs => ∃ ds, d = .lst ds | _ => False) → ((ss.map D.str).any fun e => deq e d) = inTx ss x
  | [], sh => by
    cases x <;> first | rfl | exact sh.elim
  | s :: ss, sh => by
    rw [List.map_cons, List.any_cons, anyTx (ss := ss) sh]
    cases x with
    | non => cases (show d = _ from sh); rfl
    | bl _ => cases (show d = _ from sh); rfl
    | int _ => cases (show d = _ from sh); rfl
    | str _ => cases (show d = _ from sh); rfl
    | tup _ => obtain ⟨ds, rfl⟩ := sh; rfl
    | lst _ => obtain ⟨ds, rfl⟩ := sh; rfl
    | _ => exact sh.elim
theorem toDs_strs : ∀ (ss : List Str), toDs h (ss.map M.str) = some (ss.map D.str)
  | [] => rfl
  | s :: ss => by
    show (toDB (lookD h 20) (M.str s)).bind (fun d => (toDBs (lookD h 20) (ss.map M.str)).map (d :: ·)) = _
    rw [show toDBs (lookD h 20) (ss.map M.str) = some (ss.map D.str) from toDs_strs ss]; rfl
theorem deeps_strs : ∀ (ss : List Str), D.deeps (ss.map D.str) = 0
  | [] => rfl
  | s :: ss => by rw [List.map_cons, D.deeps, deeps_strs ss]; rfl
theorem anyD_tx {ss : List Str} {f : Bool → M} (hx : Pu k x) : anyD x (ss.map M.str) h f = some (f (inTx ss x)) := by
  obtain ⟨d, e, dd, sh⟩ := hx.toD h
  unfold anyD
  rw [toDs_strs, Option.bind_some, e, Option.bind_some, if_pos (by rw [deeps_strs]; omega), anyTx sh]
theorem p_notInT {ss : List Str} (hx : Pu k x) (q : R (.bl (!inTx ss x))) : Enp (opNotIn x (.tup (ss.map M.str)) h) R := ⟨.bl (!inTx ss x), anyD_tx (f := fun b => .bl (!b)) hx, q⟩
end
def tupOf : M → Option (List M)
  | .tup xs => some xs
  | _ => none
theorem p_isTup {R : M → Prop} {h : HpM} {k : Nat} {x : M} (hx : Pu k x) (q : R (.bl (tupOf x).isSome)) : Enp (bInst [x, .ty "tuple"] h) R := by
  cases x with
  | non => exact pi_non_tuple q
  | bl _ => exact pi_bl_tuple q
  | int _ => exact pi_int_tuple q
  | str _ => exact pi_str_tuple q
  | tup _ => exact pi_tup_tuple q
  | lst _ => exact pi_lst_tuple q
  | dct _ _ => cases k <;> cases hx
  | ref _ => cases k <;> cases hx
  | scr _ => cases k <;> cases hx
  | ty _ => cases k <;> cases hx
end L2
set_option Elab.async false
set_option linter.all false
set_option maxRecDepth 100000
namespace ES
open PySem PyProof.Rows
open AutoSeq1 (wpAny_loadPart')
section
variable {prog : Program} {w : World} {A : Around} {E : Value → Shared → Prop} {s : Shared}
theorem nextOf_tuple_item {it l : Addr} {i : Nat} {items} {x : Value} {Q : Value → Shared → Prop} (hit : s.heap.IsTupleIter it l i)
    (hl : s.heap.IsTuple l items) (hx : items[i]? = some x)
    (hQ : ∀ h', h'.IsTupleIter it l (i + 1) → Heap.SameBut it s.heap h' → Q x { s with heap := h' }) :
    wpAny (model prog w) A (Builtin.SmallTypes.nextOf (.ref it)) Q E s := by
  obtain ⟨o, ho, hc, hd⟩ := id hit
  obtain ⟨ol, hol, _, nl, hdl⟩ := hl
  unfold Builtin.SmallTypes.nextOf
  refine wpAny_bind (wpAny_callSpecial?_slot (name := Str.ofString "__next__") hit.typeIs F.slot_tuple_iterator_next
    (wpAny_call_entry F.slot_tuple_iterator_next hit.typeIs F.entry_tuple_iterator_next ?_ (F.args_tuple_iterator_next_1 _)))
  show wpAny _ _ (field (.ref it) 0 >>= _) _ _ s
  refine wpAny_bind (wpAny_field ho hd (x := .ref l) rfl ?_)
  show wpAny _ _ (if (Value.ref l == Value.none) = true then _ else _) _ _ s
  rw [if_neg (show ¬ ((Value.ref l == Value.none) = true) from Bool.false_ne_true)]
  show wpAny _ _ (field (.ref it) 1 >>= _) _ _ s
  refine wpAny_bind (wpAny_field ho hd (x := .int i 0) rfl ?_)
  show wpAny _ _ (seqItems? (.ref l) >>= _) _ _ s
  refine wpAny_bind (wpAny_seqItems hol hdl ?_)
  simp only [Int.toNat_natCast, hx]
  refine wpAny_bind (wpAny_setField ho hd (by simp) (wpAny_pure ⟨x, rfl, wpAny_pure (hQ _ ?_ (Heap.SameBut.update ..))⟩))
  exact ⟨_, Heap.get?_update_self _ ho (Obj.isFreed_of_fields (Obj.data_mapFields hd _)), (Obj.cls_mapFields ..).trans hc, by
    rw [Obj.data_mapFields hd]; simp [rawInt]⟩
theorem nextOf_tuple_end {it l : Addr} {i : Nat} {items} {Q : Value → Shared → Prop} (hh : A.handled = none)
    (hit : s.heap.IsTupleIter it l i) (hl : s.heap.IsTuple l items) (hx : items[i]? = none)
    (hE : ∀ h' e, Heap.ExtBut it s.heap h' → (∃ o, h'.get? e = some o ∧ o.cls = .type "StopIteration") → E (.ref e) { s with heap := h' }) :
    wpAny (model prog w) A (Builtin.SmallTypes.nextOf (.ref it)) Q E s := by
  obtain ⟨o, ho, hc, hd⟩ := id hit
  obtain ⟨ol, hol, _, nl, hdl⟩ := hl
  unfold Builtin.SmallTypes.nextOf
  refine wpAny_bind (wpAny_callSpecial?_slot (name := Str.ofString "__next__") hit.typeIs F.slot_tuple_iterator_next
    (wpAny_call_entry F.slot_tuple_iterator_next hit.typeIs F.entry_tuple_iterator_next ?_ (F.args_tuple_iterator_next_1 _)))
  show wpAny _ _ (field (.ref it) 0 >>= _) _ _ s
  refine wpAny_bind (wpAny_field ho hd (x := .ref l) rfl ?_)
  show wpAny _ _ (if (Value.ref l == Value.none) = true then _ else _) _ _ s
  rw [if_neg (show ¬ ((Value.ref l == Value.none) = true) from Bool.false_ne_true)]
  show wpAny _ _ (field (.ref it) 1 >>= _) _ _ s
  refine wpAny_bind (wpAny_field ho hd (x := .int i 0) rfl ?_)
  show wpAny _ _ (seqItems? (.ref l) >>= _) _ _ s
  refine wpAny_bind (wpAny_seqItems hol hdl ?_)
  simp only [Int.toNat_natCast, hx]
  refine wpAny_bind (wpAny_rule (wpAny_bind (wpAny_setField ho hd (by simp) ?_)))
  show wpAny _ _ (newExc (.type "StopIteration") [] >>= _) _ _ _
  refine wpAny_bind ?_
  simp only [newExc, newTuple]
  refine wpAny_bind (wpAny_newObj_type ?_ (by size_fits))
  refine wpAny_bind (m := firstArgMember _ _) (wpAny_of_eq (a := Value.none) (by first | rfl | (simp only [firstArgMember]; rfl)) ?_)
  refine wpAny_newObj_type ?_ (by size_fits)
  simp only [raiseNew]
  refine wpAny_bind (wpAny_handled ?_)
  first | rw [show A.in1.handled = none from hh] | rw [hh]
  refine wpAny_bind (wpAny_pure (wpAny_throw ?_))
  exact hE _ _ (((Heap.SameBut.update ..).extBut.push _).push _) ⟨_, Heap.get?_push_size _ rfl, rfl⟩
end
theorem drawsT {prog : Program} {w : World} {A : Around} (hh : A.handled = none) (it l : Addr) (hne : l ≠ it) (items : Array Value) :
    Draws prog w A it [it, l] items.size (fun i v => items[i]? = some v) (fun i h => h.IsTupleIter it l i ∧ h.IsTuple l items) where
  live := fun _ _ st => let ⟨o, ho, _⟩ := st.1; ⟨o, ho⟩
  frame := fun _ _ _ st hk => by
    obtain ⟨⟨o, e, r⟩, ⟨o', e', r'⟩⟩ := st
    exact ⟨⟨o, hk it (by simp) o e, r⟩, ⟨o', hk l (by simp) o' e', r'⟩⟩
  item := fun i s Q E hi st hQ => by
    refine nextOf_tuple_item st.1 st.2 (x := items[i]) (by simp [hi]) fun h' hit' hs' => ?_
    exact hQ _ h' s.toks (by simp [hi]) ⟨hit', st.2.extBut hs'.extBut hne⟩ hs'
  done := fun s Q E st hE => nextOf_tuple_end hh st.1 st.2 (by simp) hE
theorem meets_newT (l : Addr) (items : Array Value) (n : Nat) (dct : Option Addr) (sl : Array (Option Value)) :
    Meets (Builtin.«enumerate.__new__» ⟨[.type "enumerate", .ref l], []⟩) (fun _ R s => s.heap.get? l = some { cls := .type "tuple", dict := dct, data := .seq items n, slots := sl } ∧
      R (.ok (.ret (.ref (s.heap.push { cls := .type "tuple_iterator", data := .fields #[.ref l, .int 0 0] }).objs.size)))
        { s with heap := (s.heap.push { cls := .type "tuple_iterator", data := .fields #[.ref l, .int 0 0] }).push { cls := .type "enumerate", data := .fields #[.none, .bool false, .ref s.heap.objs.size, rawInt 0, .none, .none] } }) :=
  .of_wp fun prog w A R s h => by
    obtain ⟨hp, g, d, tk, os⟩ := s; obtain ⟨hl, h⟩ := h
    have hsub := sub_enumerate
    have hL : Heap.IsTuple (Shared.heap ⟨hp, g, d, tk, os⟩) l items := ⟨_, hl, rfl, n, rfl⟩
    wp_walk using wpAny_loadPart' hl
    refine wpAny_stack_any fun st => wpAny_pure ?_
    split
    · rename_i c _ _ _ _ _
      cases (c == Value.type "enumerate")
      · wp_walk using wpAny_loadPart' hl, wpAny_pyIter_tuple hL
        exact ⟨_, rfl, h⟩
      · wp_walk using wpAny_loadPart' hl, wpAny_pyIter_tuple hL
        exact ⟨_, rfl, h⟩
    · wp_walk using wpAny_loadPart' hl, wpAny_pyIter_tuple hL
      exact ⟨_, rfl, h⟩
section
variable {prog : Program} {w : World} {A : Around} {E : Value → Shared → Prop} {s : Shared}
theorem call_enumerate_tuple {l : Addr} {items : Array Value} {Q : Value → Shared → Prop} (hL : s.heap.IsTuple l items)
    (h : ∀ h', IsEnum h' (s.heap.objs.size + 1) s.heap.objs.size 0 .none → h'.IsTupleIter s.heap.objs.size l 0 → h'.objs.size = s.heap.objs.size + 2 →
      (∀ b o, s.heap.get? b = some o → h'.get? b = some o) → Q (.ref (s.heap.objs.size + 1)) { s with heap := h' }) :
    wpAny (model prog w) A (call (.type "enumerate") [.ref l]) Q E s := by
  obtain ⟨⟨c, dct, dt, sl⟩, hl, hc, n, hd⟩ := hL
  replace hc : c = .type "tuple" := hc
  replace hd : dt = .seq items n := hd
  subst hc hd
  refine callType_new F.called_enumerate (by decide) (F.typeCall_enumerate_1 _) (F.newCall_enumerate_1 _) (fun obj => F.args_object_init_2 obj _) F.entry_enumerate_new
    (meets_newT l items n dct sl) ⟨hl, ?_⟩
  have hz : (s.heap.push { cls := .type "tuple_iterator", data := .fields #[.ref l, .int 0 0] }).objs.size = s.heap.objs.size + 1 := Heap.size_push ..
  show _ ∧ _
  rw [hz]
  have he : IsEnum ((s.heap.push { cls := .type "tuple_iterator", data := .fields #[.ref l, .int 0 0] }).push
      { cls := .type "enumerate", data := .fields #[.none, .bool false, .ref s.heap.objs.size, rawInt 0, .none, .none] }) (s.heap.objs.size + 1) s.heap.objs.size 0 .none := by
    have := Heap.get?_push_size (s.heap.push { cls := .type "tuple_iterator", data := .fields #[.ref l, .int 0 0] })
      (o := { cls := .type "enumerate", data := .fields #[.none, .bool false, .ref s.heap.objs.size, rawInt 0, .none, .none] }) rfl
    rw [hz] at this; exact this
  refine ⟨⟨_, he, rfl⟩, h _ he ⟨_, Heap.get?_push_of_some _ (Heap.get?_push_size _ rfl), rfl, rfl⟩ (by rw [Heap.size_push, hz]) fun b o x => Heap.get?_push_of_some _ (Heap.get?_push_of_some _ x)⟩
end
end ES
namespace L2
open PySem PySem.Spec PyProof.Rows
inductive ESrc where
  | lst (a : Addr) | tup (a : Addr)
def ESrc.val : ESrc → V
  | .lst a => .ref a
  | .tup a => .ref a
def eSq (K : PySem.W.Frag) (H : Hp) : ESrc → List V → Prop
  | .lst a, xs => SqL K H a xs
  | .tup a, xs => SqT K H a xs
def eSt (it : Addr) : ESrc → Nat → Heap → Prop
  | .lst a, i, h => h.IsListIter it a i
  | .tup a, i, h => h.IsTupleIter it a i
theorem eSt.obj {it : Addr} {z : ESrc} {i : Nat} {h : Heap} (q : eSt it z i h) : ∃ o c vs, h.get? it = some o ∧ o.cls = .type c ∧ (c = "list_iterator" ∨ c = "tuple_iterator") ∧ o.data = .fields vs := by
  cases z with
  | lst a => obtain ⟨o, e, c, d⟩ := q; exact ⟨o, _, _, e, c, .inl rfl, d⟩
  | tup a => obtain ⟨o, e, c, d⟩ := q; exact ⟨o, _, _, e, c, .inr rfl, d⟩
theorem eSt.keep {it : Addr} {z : ESrc} {i : Nat} {h h' : Heap} (q : eSt it z i h) (k : ∀ o, h.get? it = some o → h'.get? it = some o) : eSt it z i h' := by
  cases z with
  | lst a => obtain ⟨o, e, r⟩ := q; exact ⟨o, k o e, r⟩
  | tup a => obtain ⟨o, e, r⟩ := q; exact ⟨o, k o e, r⟩
theorem eDraws {X : Cx} {pins : List (Addr × Obj)} {σ : St} {H : Hp} {s : Shared} {A : Around} (I : Inv X pins σ H s) (hh : A.handled = none) {it : Addr} {z : ESrc} {i : Nat} {xs : List V} (hq : eSq X.K H z xs) (q : eSt it z i s.heap) :
    ∃ (f : List Addr) (P : Nat → Value → Prop) (St : Nat → Heap → Prop), Draws X.prog X.w A it f xs.length P St ∧ St i s.heap ∧ (∀ j v, P j v → ∃ x, RelV x v ∧ xs[j]? = some x) ∧ (∀ j h, St j h → eSt it z j h) ∧
      (∀ b ∈ f, b = it ∨ ∃ o, s.heap.get? b = some o ∧ (o.cls = .type "list" ∨ o.cls = .type "tuple")) ∧ ∀ ys, eSq X.K H z ys → ys = xs := by
  cases z with
  | lst a =>
    obtain ⟨its, r, pl, hz⟩ := I.list hq
    obtain ⟨ol, el, cl, _⟩ := id pl.isList
    obtain ⟨oi, ei, ci, _⟩ := id q
    have hne : a ≠ it := by
      intro z; subst z
      rw [el] at ei; cases ei
      rw [cl] at ci; exact absurd ci (by decide)
    have e : xs.length = its.toArray.size := by rw [List.size_toArray]; exact r.length
    refine ⟨[it, a], fun i v => its.toArray[i]? = some v, fun i h => h.IsListIter it a i ∧ h.IsList a its.toArray, by rw [e]; exact Draws.list hh it a hne its.toArray, ⟨q, pl.isList⟩, fun j v hv => ?_, fun j h x => x.1, fun b hb => ?_, fun ys hy => I.list_inj hy hq⟩
    · have hv' : its[j]? = some v := by simpa using hv
      have hj : j < xs.length := by rw [r.length]; exact (List.getElem?_eq_some_iff.mp hv').1
      obtain ⟨u, eu, ru⟩ := r.get (i := j) (x := xs[j]) (by simp [hj])
      rw [hv'] at eu; cases eu
      exact ⟨xs[j], ru, by simp [hj]⟩
    · rcases List.mem_cons.mp hb with z | z
      · exact .inl z
      · cases (List.mem_singleton.mp z)
        exact .inr ⟨ol, el, .inl cl⟩
  | tup a =>
    obtain ⟨its, r, pl, hz⟩ := I.tuple hq
    have pl' : s.heap.IsTuple a its.toArray := pl
    obtain ⟨ol, el, cl, _⟩ := id pl'
    obtain ⟨oi, ei, ci, _⟩ := id q
    have hne : a ≠ it := by
      intro z; subst z
      rw [el] at ei; cases ei
      rw [cl] at ci; exact absurd ci (by decide)
    have e : xs.length = its.toArray.size := by rw [List.size_toArray]; exact r.length
    refine ⟨[it, a], fun i v => its.toArray[i]? = some v, fun i h => h.IsTupleIter it a i ∧ h.IsTuple a its.toArray, by rw [e]; exact ES.drawsT hh it a hne its.toArray, ⟨q, pl'⟩, fun j v hv => ?_, fun j h x => x.1, fun b hb => ?_, fun ys hy => I.tuple_inj hy hq⟩
    · have hv' : its[j]? = some v := by simpa using hv
      have hj : j < xs.length := by rw [r.length]; exact (List.getElem?_eq_some_iff.mp hv').1
      obtain ⟨u, eu, ru⟩ := r.get (i := j) (x := xs[j]) (by simp [hj])
      rw [hv'] at eu; cases eu
      exact ⟨xs[j], ru, by simp [hj]⟩
    · rcases List.mem_cons.mp hb with z | z
      · exact .inl z
      · cases (List.mem_singleton.mp z)
        exact .inr ⟨ol, el, .inr cl⟩
def Ite (K : PySem.W.Frag) (a : ESrc) : It :=
  ⟨fun i H => ∃ xs, eSq K H a xs ∧ i < xs.length, fun i H v H' => ∃ x p, (∀ xs, eSq K H a xs → xs[i]? = some x) ∧ H p = none ∧ v = .ref p ∧ H' = upd H p (.tup [.int i, x]),
    fun i H => ∃ xs, eSq K H a xs ∧ i = xs.length⟩
theorem turn_enum {P : Program} {w : World} {K : PySem.W.Frag} {elts : List Expr} {k0 : Nat} {pos : Pos} {e it : Addr} {a : ESrc} (hei : e ≠ it) :
    Turn P w K (.Tuple elts k0 pos) (Ite K a) [e, it] e (fun i h => (∃ old, IsEnum h e it i old) ∧ eSt it a i h) where
  mem := by simp
  obj := fun i h st c hc => by
    obtain ⟨⟨old, s1⟩, s2⟩ := st
    simp only [List.mem_cons, List.not_mem_nil, or_false] at hc
    rcases hc with rfl | rfl
    · exact ⟨_, s1, fun v e => nomatch e⟩
    · obtain ⟨o, c, vs, e, _, _, d⟩ := s2.obj; exact ⟨o, e, fun v q => by rw [d] at q; cases q⟩
  keep := fun i h h' st k => by
    obtain ⟨⟨old, s1⟩, s2⟩ := st
    exact ⟨⟨old, k e (by simp) _ s1⟩, s2.keep fun o x => k it (by simp) o x⟩
  item := by
    intro X hP hw hK hc i pins s σ H E I hf st hg
    subst hP hw hK
    obtain ⟨⟨old, s1⟩, s2⟩ := st
    obtain ⟨xs, hq, hi⟩ := hg
    have hh : X.A.in1.handled = none := I.ok.hd hc
    obtain ⟨f, P, St, D, st, pp, b1, q1, inj⟩ := eDraws I hh hq s2
    have hef : e ∉ f := fun z => by
      rcases q1 e z with h | ⟨o, h, c⟩
      · exact hei h
      · rw [s1] at h; cases h
        rcases c with c | c <;> (injection c with c; exact absurd c (by decide))
    refine wpAny_pyNext_enum_itemD D s1 st hi hei hef fun u h' tk pu ho st' hT hsz hk => ⟨_, rfl, ?_⟩
    refine PySem.wpAny_letOwnedTupleGo_enum ho fun h'' he'' hs'' => ?_
    obtain ⟨x, rx, ax⟩ := pp i u pu
    have hpe : s.heap.objs.size ≠ e := Nat.ne_of_gt (Heap.lt_size s1)
    have keepAll : ∀ c o, c ∉ [e, it] → s.heap.get? c = some o → h''.get? c = some o := fun c o hc x => by
      simp only [List.mem_cons, List.not_mem_nil, or_false, not_or] at hc
      exact hs''.extBut _ _ hc.1 (hk c o hc.1 hc.2 x)
    have hT'' := hs''.extBut _ _ hpe hT
    refine ⟨.ref s.heap.objs.size, upd H s.heap.objs.size (.tup [.int i, x]), I.turnedT (its := [.int i tk, u]) keepAll hf (Nat.le_refl _) (.cons ⟨tk, rfl⟩ (.cons rx .nil)) (by show 2 ≤ sizeLine; rw [sizeLine_eq]; decide) ⟨_, hT'', rfl, _, rfl⟩, rfl, ⟨x, _, fun ys hy => by rw [inj ys hy]; exact ax, I.hok.fresh (Nat.le_refl _), rfl, rfl⟩, ?_, fun c hc => ?_⟩
    · exact ⟨⟨_, he''⟩, (b1 _ _ st').keep fun o z => hs''.extBut _ _ hei.symm z⟩
    · have : c ≠ s.heap.objs.size := by
        have hlt : c < s.heap.objs.size := by
          simp only [List.mem_cons, List.not_mem_nil, or_false] at hc
          rcases hc with rfl | rfl
          · exact Heap.lt_size s1
          · obtain ⟨o, c, vs, e, _⟩ := s2.obj; exact Heap.lt_size e
        exact Nat.ne_of_lt hlt
      rw [upd_ne this]; exact (hf c hc).1
  done := by
    intro X hP hw hK hc i pins s σ H E I hf st hg
    subst hP hw hK
    obtain ⟨⟨old, s1⟩, s2⟩ := st
    obtain ⟨xs, hq, rfl⟩ := hg
    have hh : X.A.in1.handled = none := I.ok.hd hc
    obtain ⟨f, P, St, D, st, pp, b1, q1, inj⟩ := eDraws I hh hq s2
    refine wpAny_pyNext_enum_endD D s1 st fun h' hx => ⟨rfl, I.turnedL (t' := s.toks) (fun c o hc z => ?_) hf⟩
    simp only [List.mem_cons, List.not_mem_nil, or_false, not_or] at hc
    exact hx c o hc.2 z
  self := fun A i s Q E st h => by
    obtain ⟨⟨old, he⟩, _⟩ := st
    exact wpAny_pyIter_enum he h
def iEn (K : PySem.W.Frag) (ta : TA) : TI := fun σ H R => ta σ H fun vs H1 => ∃ a : ESrc, vs = [a.val] ∧ (∃ xs, eSq K H1 a xs) ∧ R (Ite K a) H1
theorem pi_enum {X : Cx} {x : Expr} {ta : TA} {p pos : Pos} {elts : List Expr} {k0 : Nat} {tp : Pos} (hg : Gl X "enumerate") (hm : X.mg "enumerate" = none) (ha : PA X [x] ta) (hs : starEach [x] X.env = [(false, eval x X.env)]) :
    PI X (.Tuple elts k0 tp) (.Call (.Name "enumerate" p) [x] [] pos) (iEn X.K ta) := by
  intro pins s σ H R I h
  refine Call_ (ld_blt I hg hm (show bootBuiltins "enumerate" = some (.type "enumerate") by decide +kernel) (PyProof.Rows.callWith_type1 (thn (ha pos pins s σ H _ I h) fun us s1 ⟨vs, H1, I1, r1, q1⟩ => ?_) hs rfl))
  obtain ⟨a, rfl, ⟨xs, hq⟩, q⟩ := q1
  have fin : ∀ h', IsEnum h' (s1.heap.objs.size + 1) s1.heap.objs.size 0 .none → eSt s1.heap.objs.size a 0 h' → h'.objs.size = s1.heap.objs.size + 2 →
      (∀ b o, s1.heap.get? b = some o → h'.get? b = some o) → wpAny (model X.prog X.w) X.A (pyIter (.ref (s1.heap.objs.size + 1))) (PIE X pins σ (.Tuple elts k0 tp) R) X.xe { s1 with heap := h' } := fun h' he hi hsz hk => by
    have I2 : Inv X pins σ H1 { s1 with heap := h' } := I1.kept (t' := s1.toks) hk
    have st : (∃ old, IsEnum h' (s1.heap.objs.size + 1) s1.heap.objs.size ((0 : Nat) : Int) old) ∧ eSt s1.heap.objs.size a 0 h' := ⟨⟨_, he⟩, hi⟩
    have hne : s1.heap.objs.size + 1 ≠ s1.heap.objs.size := Nat.succ_ne_self _
    refine (turn_enum (P := X.prog) (w := X.w) (K := X.K) (elts := elts) (k0 := k0) (pos := tp) hne).self _ 0 _ _ _ st ⟨_, _, _, Ite X.K a, H1, rfl, I2, turn_enum hne, st, fun c hc => ?_, q⟩
    have hge : s1.heap.objs.size ≤ c := by
      simp only [List.mem_cons, List.not_mem_nil, or_false] at hc
      rcases hc with rfl | rfl
      · exact Nat.le_add_right _ _
      · exact Nat.le_refl _
    exact I1.fpOk hge (I1.hok.fresh hge)
  cases r1 with
  | cons r rr =>
    cases rr
    cases a with
    | lst a =>
      cases (show _ = Value.ref a from r)
      obtain ⟨its, _, pl, _⟩ := I1.list hq
      exact call_enumerate_list pl.isList fin
    | tup a =>
      cases (show _ = Value.ref a from r)
      obtain ⟨its, _, pl, _⟩ := I1.tuple hq
      exact ES.call_enumerate_tuple pl fin
end L2
set_option Elab.async false
set_option linter.all false
set_option maxRecDepth 100000
namespace L2
open PySem PySem.Spec PyProof.Rows
section
variable {X : Cx} {K : PySem.W.Frag} {mas : FA} {p pos : Pos}
def eOfM : M → Option (List M)
  | .lst xs => some xs
  | .tup xs => some xs
  | .scr ns => some (ns.map M.int)
  | _ => none
def numd (xs : List M) : List M := (List.range xs.length).zipWith (fun (i : Nat) x => M.tup [.int (i : Int), x]) xs
theorem numd_length (xs : List M) : (numd xs).length = xs.length := by simp [numd]
theorem numd_get {xs : List M} {i : Nat} : (numd xs)[i]? = (xs[i]?).map fun x => M.tup [.int (i : Int), x] := by
  unfold numd
  rw [List.getElem?_zipWith]
  by_cases h : i < xs.length
  · rw [List.getElem?_range h, List.getElem?_eq_getElem h]; rfl
  · have h1 : (List.range xs.length)[i]? = none := List.getElem?_eq_none (by simp; omega)
    have h2 : xs[i]? = none := List.getElem?_eq_none (by omega)
    rw [h1, h2]; rfl
def iEnumerate (a : FA) : FI := fun ρ h => bnd (a ρ h) fun xs h1 => match xs with
  | [x] => (eOfM x).bind fun us => some ((numd us, none), h1)
  | _ => none
def eKind : M → Bool
  | .tup _ => true
  | _ => false
theorem eOfM_srcK {α : Pl} {H : Hp} {m : M} {a : Addr} {us : List M} (e : eOfM m = some us) (r : RepA K α H m (.ref a)) : ∃ vs : List V, eSq K H (if eKind m then .tup a else .lst a) vs ∧ RepAs K α H us vs := by
  unfold eOfM at e
  split at e
  · cases e
    obtain ⟨a', vs, q, n, ha, rs⟩ := r
    cases q
    exact ⟨vs, SqL.of ha, rs⟩
  · cases e
    obtain ⟨a', vs, q, t, rs⟩ := r
    cases q
    exact ⟨vs, t.sq, rs⟩
  · cases e
    obtain ⟨a', q, t⟩ := r
    cases q
    exact ⟨_, t.sq, RepAs.ints⟩
  · cases e
theorem eOfM_ref {α : Pl} {H : Hp} {m : M} {v : V} {us : List M} (e : eOfM m = some us) (r : RepA K α H m v) : ∃ a, v = .ref a := by
  unfold eOfM at e
  split at e
  · obtain ⟨a, vs, rfl, _⟩ := r; exact ⟨a, rfl⟩
  · obtain ⟨a, vs, rfl, _⟩ := r; exact ⟨a, rfl⟩
  · obtain ⟨a, rfl, _⟩ := r; exact ⟨a, rfl⟩
  · cases e
theorem mi_enumerate {x : Expr} {elts : List Expr} {k0 : Nat} {tp : Pos} (q : NmOk X.env.scope "enumerate" .globalImplicit) (hm : X.mg "enumerate" = none) (ha : PA X [x] (aM X.K mas)) (hs : starEach [x] X.env = [(false, eval x X.env)]) (hs2 : True := trivial) :
    PI X (.Tuple elts k0 tp) (.Call (.Name "enumerate" p) [x] [] pos) (iM X.K (iEnumerate mas)) := (pi_enum q.lk hm ha hs).imp fun σ H R ⟨α, ρ, h, s, h', hσ, hr, e, k⟩ => by
  obtain ⟨xs, h1, e1, e⟩ := bnd_inv e
  split at e
  · rename_i m
    obtain ⟨us, e2, e⟩ := Option.bind_eq_some_iff.mp e
    cases e
    refine ⟨α, ρ, h, _, _, hσ, hr, e1, fun α1 H1 ws ev1 hr1 rs => ?_⟩
    obtain ⟨u, rfl, ru⟩ := rep1 rs
    obtain ⟨a, rfl⟩ := eOfM_ref e2 ru
    obtain ⟨vs, sq, rvs⟩ := eOfM_srcK e2 ru
    refine ⟨if eKind m then .tup a else .lst a, by split <;> rfl, ⟨vs, sq⟩, k α1 H1 _ ev1 hr1 fun γ hγ α2 h2 H2 ev2 hr2 _ i => ?_⟩
    have ru2 := (ru.hides hγ).ev ev2
    refine ⟨fun z hz => ?_, fun hl => ?_⟩
    · obtain ⟨vs2, sq2, rvs2⟩ := eOfM_srcK e2 ru2
      rw [numd_get] at hz
      cases qu : us[i]? with
      | none => rw [qu] at hz; cases hz
      | some w =>
        rw [qu] at hz
        cases hz
        have hi : i < vs2.length := by rw [← rvs2.length]; exact (List.getElem?_eq_some_iff.mp qu).1
        refine ⟨⟨vs2, sq2, hi⟩, fun v H3 y => ?_⟩
        obtain ⟨y, p, hy, hp, rfl, rfl⟩ := y
        refine ⟨same_new hp _, laidT hr2 hp ⟨_, _, rfl, rfl, y, _, rfl, ?_, rfl⟩⟩
        obtain ⟨v', hv', rv'⟩ := rvs2.get qu
        have := hy vs2 sq2
        rw [hv'] at this
        cases this
        exact rv'
    · obtain ⟨vs2, sq2, rvs2⟩ := eOfM_srcK e2 ru2
      exact ⟨vs2, sq2, by rw [hl, numd_length, rvs2.length]⟩
  · cases e
end
section
variable {R : M → HpM → Prop} {ρ : EnvM} {h : HpM} {mas : FA}
theorem e_iEnum {s : SI} (q : Ens (mas ρ h) fun xs h1 => ∃ x us, xs = [x] ∧ eOfM x = some us ∧ s (numd us, none) h1) : Ens (iEnumerate mas ρ h) s := .bnd (q.mono fun x h1 q => by
  obtain ⟨x, us, rfl, e1, q⟩ := q
  exact ⟨_, h1, by show (eOfM x).bind _ = _; rw [e1]; rfl, q⟩)
end
end L2
set_option Elab.async false
set_option linter.all false
set_option maxRecDepth 100000
set_option Elab.async false
set_option linter.all false
namespace L2
open PySem PySem.Spec PyProof.Rows
section
variable {X : Cx} {a b c d : Expr} {es : List Expr} {ma mb mc md : FE} {mas : FA}
theorem ma_1 (ha : PE X a (tM X.K ma)) (h1 : notStar a = true) : PA X [a] (aM X.K (mCons ma mNil)) := ma_cons ha ma_nil h1
theorem ma_2 (ha : PE X a (tM X.K ma)) (hb : PE X b (tM X.K mb)) (h1 : notStar a = true) (h2 : notStar b = true) : PA X [a, b] (aM X.K (mCons ma (mCons mb mNil))) := ma_cons ha (ma_1 hb h2) h1
theorem ma_3 (ha : PE X a (tM X.K ma)) (hb : PE X b (tM X.K mb)) (hc : PE X c (tM X.K mc)) (h1 : notStar a = true) (h2 : notStar b = true) (h3 : notStar c = true) : PA X [a, b, c] (aM X.K (mCons ma (mCons mb (mCons mc mNil)))) := ma_cons ha (ma_2 hb hc h2 h3) h1
theorem ma_c4 (ha : PE X a (tM X.K ma)) (hb : PE X b (tM X.K mb)) (hc : PE X c (tM X.K mc)) (hd : PE X d (tM X.K md)) (hr : PA X es (aM X.K mas)) (h1 : notStar a = true) (h2 : notStar b = true) (h3 : notStar c = true) (h4 : notStar d = true) : PA X (a :: b :: c :: d :: es) (aM X.K (mCons ma (mCons mb (mCons mc (mCons md mas))))) := ma_cons ha (ma_cons hb (ma_cons hc (ma_cons hd hr h4) h3) h2) h1
theorem ma_4 (ha : PE X a (tM X.K ma)) (hb : PE X b (tM X.K mb)) (hc : PE X c (tM X.K mc)) (hd : PE X d (tM X.K md)) (h1 : notStar a = true) (h2 : notStar b = true) (h3 : notStar c = true) (h4 : notStar d = true) : PA X [a, b, c, d] (aM X.K (mCons ma (mCons mb (mCons mc (mCons md mNil))))) := ma_c4 ha hb hc hd ma_nil h1 h2 h3 h4
end
end L2
set_option Elab.async false
set_option linter.all false
set_option maxRecDepth 100000
set_option maxHeartbeats 1000000
namespace ZT
open PySem PyProof.Rows
section
variable {prog : Program} {w : World} {A : Around} {E : Value → Shared → Prop} {s : Shared}
theorem collect_tuple {l : Addr} {vs : List Value} {Q : List Value → Shared → Prop} (hl : s.heap.IsTuple l vs.toArray)
    (h : Q vs { s with heap := (s.heap.push (seqObj "list" #[] 0)).update s.heap.objs.size (Obj.mapSeq (· ++ vs.toArray)) }) (hsz : vs.length ≤ sizeLine := by size_fits) :
    wpAny (model prog w) A (collect (.ref l)) Q E s := by
  obtain ⟨o, ho, hc, n, hd⟩ := id hl
  unfold collect
  refine wpAny_bind (wpAny_runValue (codeAny_builtin entry_proto_collect' ?_))
  show wpAny _ _ (do again (.builtin "list.__iadd__" ⟨[← newList [], .ref l], []⟩)) _ _ s
  refine wpAny_bind (wpAny_newList (wpAny_pure ⟨Code.quiet_builtin _ (by decide +kernel), codeAny_builtin entry_list_iadd' ?_⟩))
  show wpAny _ _ (Builtin.List.listExtendWith (.ref s.heap.objs.size) (.ref l) (.ref s.heap.objs.size)) _ _ { s with heap := s.heap.push (seqObj "list" #[] 0) }
  unfold Builtin.List.listExtendWith
  have ho' : (s.heap.push (seqObj "list" #[] 0)).get? l = some o := Heap.get?_push_of_some _ ho
  refine wpAny_bind (wpAny_typeOf (T := "tuple") ⟨o, ho', hc⟩ ?_)
  have ht : (Value.type "tuple" == Value.type "tuple") = true := by rfl
  rw [if_pos (by rw [ht]; simp)]
  refine wpAny_bind (listItems_at ho' hd ?_)
  refine wpAny_bind (listItems_at (xs := #[]) (n := 0) (Heap.get?_push_size _ rfl) rfl ?_)
  rw [if_neg (by simp)]
  refine wpAny_bind (listUpdate_at (xs := #[]) (n := 0) (Heap.get?_push_size _ rfl) rfl ?_ (Nat.zero_le _) (by show (#[] ++ vs.toArray).size ≤ sizeLine + 1; simp only [Array.size_append, List.size_toArray, List.length_nil]; omega))
  refine wpAny_pure ?_
  show wpAny (model prog w) A (do
      let o ← load s.heap.objs.size
      match o.data with
      | .seq xs _ => pure xs.toList
      | _ => unsupported "internal:collect") Q E { s with heap := (s.heap.push (seqObj "list" #[] 0)).update s.heap.objs.size (Obj.mapSeq (· ++ vs.toArray)) }
  refine wpAny_bind (wpAny_load (get?_update_seq (Heap.get?_push_size _ rfl) _) ?_)
  show wpAny _ _ (pure ((#[] : Array Value) ++ vs.toArray).toList) Q E _
  rw [show ((#[] : Array Value) ++ vs.toArray).toList = vs by simp]
  exact wpAny_pure h
theorem sorted_intsT {l : Addr} {vs : List Value} {ns : List Int} {Q : Value → Shared → Prop} (hl : s.heap.IsTuple l vs.toArray) (hI : IntsAre vs ns) (h64 : vs.length < 64)
    (h : ∀ (out : Array Value) (ns' : List Int), IntsAre out.toList ns' → ns'.Perm ns → ns'.Pairwise (· ≤ ·) → Q (.ref (s.heap.objs.size + 1)) { s with heap := sortedAll s.heap vs out }) :
    wpAny (model prog w) A (call (.builtin "sorted") [.ref l]) Q E s := by
  refine Calls.call_function_entry kind_sorted plain_sorted entry_sorted (args_sorted1 _) ?_
  unfold Builtin.«sorted»
  refine wpAny_bind (m := checkCount "sorted" 1 1 _) (wpAny_pure ?_)
  refine wpAny_bind (collect_tuple hl ?_ (by rw [sizeLine_eq]; omega))
  refine wpAny_bind (wpAny_newList ?_ (by first | (rw [sizeLine_eq]; omega) | size_fits))
  have hsz : ((s.heap.push (seqObj "list" #[] 0)).update s.heap.objs.size (Obj.mapSeq (· ++ vs.toArray))).objs.size = s.heap.objs.size + 1 := by
    rw [Heap.size_update, size_push']
  have hoL : (((s.heap.push (seqObj "list" #[] 0)).update s.heap.objs.size (Obj.mapSeq (· ++ vs.toArray))).push (seqObj "list" vs.toArray 0)).get? (s.heap.objs.size + 1) = some (seqObj "list" vs.toArray 0) := by
    rw [← hsz]; exact Heap.get?_push_size _ rfl
  show wpAny _ _ _ _ _ { s with heap := ((s.heap.push (seqObj "list" #[] 0)).update s.heap.objs.size (Obj.mapSeq (· ++ vs.toArray))).push (seqObj "list" vs.toArray 0) }
  rw [hsz]
  refine wpAny_bind (wpAny_holding (wpAny_call_entry slot_list_sort ⟨_, hoL, rfl⟩ entry_list_sort (list_sort_tree hoL hI h64 fun out ns' a1 a2 a3 => ⟨_, rfl, ?_⟩) (args_list_sort _)))
  exact wpAny_pure ⟨_, rfl, h out ns' a1 a2 a3⟩
end
theorem noFill_tuple_mul : fillsNumberSlot (.type "tuple") "mul" = pure false :=
  PySem.fillsNumberSlot_seq (id := "tuple.__mul__") (r := some (.builtin "tuple.__rmul__")) F.slot_tuple_mul.lookup (by decide +kernel) F.slot_tuple_rmul.lookup (by decide +kernel)
theorem repeat_tuple : seqRepeat? (.type "tuple") = pure (some (.builtin "tuple.__mul__")) := by
  unfold seqRepeat?
  rw [PySem.seqSlot_of (T := "tuple") (name := "__mul__") (id := "tuple.__mul__") F.slot_tuple_mul.lookup (by decide +kernel), PySem.seqSlot_of (T := "tuple") (name := "__rmul__") (id := "tuple.__rmul__") F.slot_tuple_rmul.lookup (by decide +kernel)]
  rfl
theorem int_rmul_tuple (a : Int) (t : Tok) (l : Addr) (items : Array Value) (n : Nat) (dct : Option Addr) (sl : Array (Option Value)) :
    Meets (Builtin.«int.__rmul__» ⟨[.int a t, .ref l], []⟩) (fun _ R s => s.heap.get? l = some { cls := .type "tuple", dict := dct, data := .seq items n, slots := sl } ∧ R (.ok (.ret Value.notImplemented)) s) :=
  .of_wp fun prog w A R s h => by obtain ⟨hp, g, d, tk, os⟩ := s; obtain ⟨hl, h⟩ := h; wp_walk; exact ⟨_, rfl, h⟩
open AutoSeq1 (wpAny_loadPart')
theorem tuple_mul1 (l : Addr) (items : Array Value) (n : Nat) (dct : Option Addr) (sl : Array (Option Value)) (u : Tok) :
    Meets (Builtin.«tuple.__mul__» ⟨[.ref l, .int 1 u], []⟩) (fun _ R s => s.heap.get? l = some { cls := .type "tuple", dict := dct, data := .seq items n, slots := sl } ∧ R (.ok (.ret (.ref l))) s) :=
  .of_wp fun prog w A R s h => by
    obtain ⟨hp, g, d, tk, os⟩ := s; obtain ⟨hl, h⟩ := h
    wp_walk using wpAny_loadPart' hl
    exact ⟨_, rfl, h⟩
theorem tuple_mul2 (l : Addr) (y : Value) (n : Nat) (dct : Option Addr) (sl : Array (Option Value)) (u : Tok) :
    Meets (Builtin.«tuple.__mul__» ⟨[.ref l, .int 2 u], []⟩) (fun _ R s => s.heap.get? l = some { cls := .type "tuple", dict := dct, data := .seq #[y] n, slots := sl } ∧ R (.ok (.ret (.ref s.heap.objs.size))) { s with heap := s.heap.push { cls := .type "tuple", data := .seq #[y, y] } }) :=
  .of_wp fun prog w A R s h => by
    obtain ⟨hp, g, d, tk, os⟩ := s; obtain ⟨hl, h⟩ := h
    wp_walk using wpAny_loadPart' hl
    exact ⟨_, rfl, h⟩
theorem tuple_mul3 (l : Addr) (y : Value) (n : Nat) (dct : Option Addr) (sl : Array (Option Value)) (u : Tok) :
    Meets (Builtin.«tuple.__mul__» ⟨[.ref l, .int 3 u], []⟩) (fun _ R s => s.heap.get? l = some { cls := .type "tuple", dict := dct, data := .seq #[y] n, slots := sl } ∧ R (.ok (.ret (.ref s.heap.objs.size))) { s with heap := s.heap.push { cls := .type "tuple", data := .seq #[y, y, y] } }) :=
  .of_wp fun prog w A R s h => by
    obtain ⟨hp, g, d, tk, os⟩ := s; obtain ⟨hl, h⟩ := h
    wp_walk using wpAny_loadPart' hl
    exact ⟨_, rfl, h⟩
theorem tuple_mul4 (l : Addr) (y : Value) (n : Nat) (dct : Option Addr) (sl : Array (Option Value)) (u : Tok) :
    Meets (Builtin.«tuple.__mul__» ⟨[.ref l, .int 4 u], []⟩) (fun _ R s => s.heap.get? l = some { cls := .type "tuple", dict := dct, data := .seq #[y] n, slots := sl } ∧ R (.ok (.ret (.ref s.heap.objs.size))) { s with heap := s.heap.push { cls := .type "tuple", data := .seq #[y, y, y, y] } }) :=
  .of_wp fun prog w A R s h => by
    obtain ⟨hp, g, d, tk, os⟩ := s; obtain ⟨hl, h⟩ := h
    wp_walk using wpAny_loadPart' hl
    exact ⟨_, rfl, h⟩
theorem tuple_mul5 (l : Addr) (y : Value) (n : Nat) (dct : Option Addr) (sl : Array (Option Value)) (u : Tok) :
    Meets (Builtin.«tuple.__mul__» ⟨[.ref l, .int 5 u], []⟩) (fun _ R s => s.heap.get? l = some { cls := .type "tuple", dict := dct, data := .seq #[y] n, slots := sl } ∧ R (.ok (.ret (.ref s.heap.objs.size))) { s with heap := s.heap.push { cls := .type "tuple", data := .seq #[y, y, y, y, y] } }) :=
  .of_wp fun prog w A R s h => by
    obtain ⟨hp, g, d, tk, os⟩ := s; obtain ⟨hl, h⟩ := h
    wp_walk using wpAny_loadPart' hl
    exact ⟨_, rfl, h⟩
end ZT
set_option Elab.async false
set_option linter.all false
set_option maxRecDepth 100000
set_option maxHeartbeats 1000000
namespace ZT
open PySem PyProof.Rows
theorem lri_no_len : typeLookup (.type "list_reverseiterator") "__len__" = pure none := by rw [typeLookup_type, builtinLookup_eq_fast]; kernel_rfl
theorem lri_hint : typeLookup (.type "list_reverseiterator") "__length_hint__" = pure (some (.builtin "list_reverseiterator.__length_hint__")) := by rw [typeLookup_type, builtinLookup_eq_fast]; kernel_rfl
section
variable {prog : Program} {w : World} {A : Around} {E : Value → Shared → Prop} {s : Shared} {r l : Addr} {items : Array Value}
theorem rev_hint (hT : s.TypeIs (.ref r) "list_reverseiterator") {Q : Bool → Shared → Prop} (h : Q false s) : wpAny (model prog w) A (Builtin.List.listLengthHint (.ref r)) Q E s := by
  unfold Builtin.List.listLengthHint
  refine wpAny_bind (wpAny_specialOf hT lri_no_len ?_)
  simp only [Option.isSome_none, Bool.false_eq_true, if_false]
  refine wpAny_ite_split (fun hab => absurd hab (by decide +kernel)) (fun _ => ?_)
  refine wpAny_bind (wpAny_specialOf hT lri_hint ?_)
  generalize hid : ("list_reverseiterator.__length_hint__" : String) = id0
  wp_delta
  rw [show splitId id0 = some ("list_reverseiterator", "__length_hint__") from by subst hid; decide +kernel]
  subst hid
  refine wpAny_bind (wpAny_isInstance (T := "list_reverseiterator") (b := true) hT (by rw [isSubtype_type]; kernel_rfl) ?_)
  refine wpAny_ite_split (fun hab => absurd hab (by decide)) (fun _ => ?_)
  refine wpAny_ite_split (fun _ => ?_) (fun hab => absurd (by decide +kernel) hab)
  refine wpAny_ite_split (fun hab => absurd hab (by decide +kernel)) (fun _ => ?_)
  exact wpAny_pure h
theorem rev_extend {R : Result → Shared → Prop} (hh : A.handled = none) (hit : s.heap.IsRevIter r l ((items.size : Int) - 1)) (hl : s.heap.IsList l items) (S : Addr) (hSr : S ≠ r) (hSl : S ≠ l) (hlr : l ≠ r) (res : Value) (c₀ : Nat) (hS : s.heap.get? S = some { cls := .type "list", data := .seq #[] c₀ })
    (hR : ∀ s' acc c, Moved [S, r] (fun a b => b = a) s s' → s'.heap.get? S = some { cls := .type "list", dict := none, data := .seq acc c, slots := #[] } → acc.toList = items.toList.reverse → R (.ok (.ret res)) s') (hn : items.size ≤ sizeLine) :
    wpAny (model prog w) A.in1 (Builtin.List.listExtendWith (.ref S) (.ref r) res)
      (fun fin s' => match fin with | .done f => R (.ok f) s' | .again c' => c'.quiet = true ∧ codeAny (model prog w) A c' R s') (fun e s' => R (.error e) s') s := by
  have hT := hit.typeIs
  have key : ∀ (s1 : Shared) (c₁ : Nat), Moved [S, r] (fun a b => b = a) s s1 → s1.heap.IsRevIter r l ((items.size : Int) - 1) → s1.heap.IsList l items → s1.heap.get? S = some { cls := .type "list", dict := none, data := .seq #[] c₁, slots := #[] } →
      codeAny (model prog w) A (.builtin "list.extend.loop" ⟨[.ref S, .ref r, res], []⟩) R s1 := by
    intro s1 c₁ hm h1 h2 h3
    have hSf : S ∉ [r, l] := by simp [hSr, hSl]
    refine codeAny_extend_loopS ((Walks.listRev (by simpa using hh) r l hlr items).toS) hn S hSf res items.size 0 s1 #[] c₁ (Nat.sub_zero _) (Nat.zero_le _) ⟨Nat.zero_le _, by simpa using h1, h2⟩ h3 (ItemsOf.nil _) fun s' acc c' hm' hS' hacc => ?_
    refine hR s' acc c' (Moved.trans (fun _ _ _ a b => b.trans a) hm hm') hS' ?_
    apply List.ext_getElem?
    intro j
    by_cases hj : j < items.size
    · have hj' : j < acc.size := by rw [hacc.1]; exact hj
      have h4 := hacc.2 j acc[j] (by simp [hj'])
      have e1 : acc.toList[j]? = some acc[j] := by simp [hj']
      rw [e1, List.getElem?_reverse (by simpa using hj), ← h4]
      simp
    · rw [List.getElem?_eq_none (by simp [hacc.1]; omega), List.getElem?_eq_none (by simp; omega)]
  unfold Builtin.List.listExtendWith
  refine wpAny_bind (wpAny_typeOf (T := "list_reverseiterator") hT ?_)
  have h1 : Builtin.List.listSameRef (.ref S) (.ref r) = false := by simp [Builtin.List.listSameRef, hSr]
  have h2 : (Value.type "list_reverseiterator" == Value.type "list") = false := by decide
  have h3 : (Value.type "list_reverseiterator" == Value.type "tuple") = false := by decide
  simp only [h1, h2, h3, Bool.or_false, Bool.false_eq_true, if_false]
  refine wpAny_bind (wpAny_pyIter_revIter hit ?_)
  refine wpAny_bind (wpAny_holding (rev_hint hT ?_))
  refine wpAny_ite_split (fun hab => absurd hab (by decide +kernel)) (fun _ => wpAny_pure ⟨plainId_quiet PySem.F.plain_extend_loop _, key s c₀ ⟨fun _ _ _ e => e, rfl, rfl, rfl, Nat.le_refl _⟩ hit hl hS⟩)
theorem rev_call {Q : Value → Shared → Prop} (hh : A.handled = none) (hit : s.heap.IsRevIter r l ((items.size : Int) - 1)) (hl : s.heap.IsList l items) (hlr : l ≠ r) (hn : items.size ≤ sizeLine)
    (hQ : ∀ h' tk acc c, (∀ b o, b ≠ r → s.heap.get? b = some o → h'.get? b = some o) → h'.get? s.heap.objs.size = some { cls := .type "list", dict := none, data := .seq acc c, slots := #[] } → acc.toList = items.toList.reverse → Q (.ref s.heap.objs.size) { s with heap := h', toks := tk }) :
    wpAny (model prog w) A (call (.type "list") [.ref r]) Q E s := by
  refine callType_codes (Q₁ := fun obj s₁ => obj = .ref s.heap.objs.size ∧ s₁ = { s with heap := s.heap.push { cls := .type "list", data := .seq #[] } }) PySem.F.called_list (PySem.F.typeCall_list_1 _) PySem.F.entry_list_init
    (code_list_new _ ⟨rfl, rfl⟩) fun obj s₁ h₁ => ?_
  obtain ⟨rfl, rfl⟩ := h₁
  have hS : (s.heap.push { cls := .type "list", data := .seq #[] }).get? s.heap.objs.size = some { cls := .type "list", data := .seq #[] } := Heap.get?_push_size _ rfl
  have hr : r < s.heap.objs.size := let ⟨_, ho, _⟩ := hit; Heap.lt_size ho
  have hd : l < s.heap.objs.size := let ⟨_, ho, _⟩ := hl; Heap.lt_size ho
  refine ⟨⟨_, hS, rfl⟩, PySem.F.args_list_init_2 _ _, ?_⟩
  show wpAny _ _ (do let old ← Builtin.List.listItems (.ref s.heap.objs.size); Builtin.List.listUpdate (.ref s.heap.objs.size) (fun _ => #[]); letGo old.toList.reverse; Builtin.List.listExtendWith (.ref s.heap.objs.size) (.ref r) .none) _ _ _
  refine wpAny_bind ?_
  unfold Builtin.List.listItems
  refine wpAny_bind (wpAny_seqItems hS rfl (wpAny_pure ?_))
  show wpAny _ _ (updateSeq s.heap.objs.size (fun _ => #[]) >>= fun _ => letGo (#[] : Array Value).toList.reverse >>= fun _ => Builtin.List.listExtendWith (.ref s.heap.objs.size) (.ref r) .none) _ _ _
  refine wpAny_bind (wpAny_updateSeq hS rfl ?_)
  have hS₂ := Heap.get?_update_self (Obj.mapSeq (fun _ => (#[] : Array Value))) hS rfl
  refine wpAny_bind (wpAny_letGo ?_)
  have oth : ∀ b o, b ≠ s.heap.objs.size → s.heap.get? b = some o → ((s.heap.push { cls := .type "list", data := .seq #[] }).update s.heap.objs.size (Obj.mapSeq (fun _ => (#[] : Array Value)))).get? b = some o :=
    fun b o hb e => (Heap.get?_update_other _ _ (Ne.symm hb)).trans (Heap.get?_push_of_some _ e)
  refine rev_extend (A := A.in1) hh (let ⟨o, ho, x⟩ := hit; ⟨o, oth r o (Nat.ne_of_lt hr) ho, x⟩) (let ⟨o, ho, x⟩ := hl; ⟨o, oth l o (Nat.ne_of_lt hd) ho, x⟩) s.heap.objs.size (Nat.ne_of_gt hr) (Nat.ne_of_gt hd) hlr .none _ hS₂ (fun s' acc c hm hS' hacc => ?_) hn
  obtain ⟨h', g', d', tk', os'⟩ := s'
  have eg : g' = s.gens := hm.gens
  have ed : d' = s.drawn := hm.drawn
  have eo : os' = s.os := hm.os
  subst eg ed eo
  exact ⟨rfl, hQ h' tk' acc c (fun b o hb e => hm.heap b o (by simp [hb, Nat.ne_of_lt (Heap.lt_size e)]) (oth b o (Nat.ne_of_lt (Heap.lt_size e)) e)) hS' hacc⟩
end
end ZT
set_option Elab.async false
set_option linter.all false
set_option maxRecDepth 100000
namespace L2
open PySem PySem.Spec PyProof.Rows
theorem RepAs.reverse {K : PySem.W.Frag} {α : Pl} {H : Hp} : ∀ {xs : List M} {vs : List V}, RepAs K α H xs vs → RepAs K α H xs.reverse vs.reverse
  | [], _, h => by cases (show _ = [] from h); exact rfl
  | x :: xs, _, ⟨v, r, e1, h1, h2⟩ => by
    subst e1
    rw [List.reverse_cons, List.reverse_cons]
    exact (RepAs.reverse h2).snoc h1
section
variable {X : Cx} {K : PySem.W.Frag} {a : Expr} {ta : TE} {ma : FE} {mas : FA} {p1 p2 pos1 pos2 pos : Pos}
def tRev (K : PySem.W.Frag) (ta : TE) : TE := fun σ H Q => ta σ H fun x H1 => ∃ p xs, x = .ref p ∧ SqL K H1 p xs ∧ ∀ l, H1 l = none → Q (.ref l) (upd H1 l (.lst xs.reverse))
theorem pe_listRev (hc : X.calm = true) (q1 : NmOk X.env.scope "list" .globalImplicit) (m1 : X.mg "list" = none) (q2 : NmOk X.env.scope "reversed" .globalImplicit) (m2 : X.mg "reversed" = none) (ha : PE X a ta) (hs : notStar a = true) :
    PE X (.Call (.Name "list" p1) [.Call (.Name "reversed" p2) [a] [] pos2] [] pos1) (tRev X.K ta) := by
  intro pins s σ H Q I h
  refine Call_ (ld_blt I q1.lk m1 (show bootBuiltins "list" = some (.type "list") by decide +kernel) (PyProof.Rows.callWith_type1 ?_ rfl rfl))
  show wpAny _ _ (spliced ((false, eval (.Call (.Name "reversed" p2) [a] [] pos2) X.env) :: backTo pos1 (starEach [] X.env))) _ _ s
  refine Calls.spliced_cons ?_
  refine Call_ (ld_blt I q2.lk m2 PyProof.Rows.boot_reversed (PyProof.Rows.callWith_type1 (thn ((pa_c ha pa_nil hs) pos2 pins s σ H (fun vs H1 => match vs with | [x] => (∃ p xs, x = .ref p ∧ SqL X.K H1 p xs ∧ ∀ l, H1 l = none → Q (.ref l) (upd H1 l (.lst xs.reverse))) | _ => False) I h) fun us s1 ⟨vs, H1, I1, r1, q⟩ => ?_) (star_cons hs) rfl))
  cases r1 with
  | nil => exact q.elim
  | cons r rr =>
    cases rr with
    | cons _ _ => exact q.elim
    | nil =>
    obtain ⟨p, xs, ex, hq, q⟩ := q
    subst ex
    cases (show _ = Value.ref p from r)
    obtain ⟨its, rv, pl, hz⟩ := I1.list hq
    refine call_reversed_list pl.isList (Calls.spliced_nil ?_)
    have hp : p < s1.heap.objs.size := let ⟨_, ho, _⟩ := pl.isList; Heap.lt_size ho
    have hit : Heap.IsRevIter (s1.heap.push (revObj p ((its.toArray.size : Int) - 1))) s1.heap.objs.size p ((its.toArray.size : Int) - 1) := ⟨_, Heap.get?_push_size _ rfl, rfl, rfl⟩
    refine ZT.rev_call (s := { s1 with heap := s1.heap.push (revObj p ((its.toArray.size : Int) - 1)) }) (items := its.toArray) (r := s1.heap.objs.size) (l := p) (I1.ok.hd hc) hit (let ⟨o, ho, x⟩ := pl.isList; ⟨o, Heap.get?_push_of_some _ ho, x⟩) (Nat.ne_of_lt hp) (by rw [List.size_toArray, ← rv.length]; exact hz) fun h' tk acc c hk hS hacc => ?_
    have hsz : (s1.heap.push (revObj p ((its.toArray.size : Int) - 1))).objs.size = s1.heap.objs.size + 1 := Heap.size_push ..
    have hn : H1 (s1.heap.push (revObj p ((its.toArray.size : Int) - 1))).objs.size = none := I1.hok.fresh (by rw [hsz]; exact Nat.le_succ _)
    refine ⟨.ref _, upd H1 (s1.heap.push (revObj p ((its.toArray.size : Int) - 1))).objs.size (.lst xs.reverse), I1.laid (t' := tk) (fun b o e => hk b o (Nat.ne_of_lt (Heap.lt_size e)) (Heap.get?_push_of_some _ e)) (by rw [hsz]; exact Nat.le_succ _) ⟨by rw [List.length_reverse]; exact hz, acc.toList, c, by rw [hacc]; exact rv.reverse, by simpa using hS⟩, rfl, q _ hn⟩
def opRev (x : M) (h : HpM) : Option M := (seqR h x).map fun xs => .lst xs.reverse
theorem me_listRev (hc : X.calm = true) (q1 : NmOk X.env.scope "list" .globalImplicit) (m1 : X.mg "list" = none) (q2 : NmOk X.env.scope "reversed" .globalImplicit) (m2 : X.mg "reversed" = none) (ha : PE X a (tM X.K ma)) (hs : notStar a = true) :
    PE X (.Call (.Name "list" p1) [.Call (.Name "reversed" p2) [a] [] pos2] [] pos1) (tM X.K (mUn opRev ma)) := (pe_listRev hc q1 m1 q2 m2 ha hs).imp fun σ H Q ⟨α, ρ, h, d, h', hσ, hr, e, k⟩ => by
  obtain ⟨x, h1, e1, e⟩ := bnd_inv e
  obtain ⟨e3, e4⟩ := map_inv e
  dsimp only at e3 e4
  subst e4
  obtain ⟨xs, e5, e6⟩ := Option.map_eq_some_iff.mp e3
  refine ⟨α, ρ, h, x, _, hσ, hr, e1, fun α1 H1 v ev1 hr1 rv => ?_⟩
  obtain ⟨p, vs, rfl, sq, rs⟩ := seqR_rep hr1 rv e5
  refine ⟨p, vs, rfl, sq, fun l hl => ?_⟩
  rw [← e6] at k
  exact k α1 _ _ (ev1.trans (.same (same_new hl _))) (hr1.same (same_new hl _)) (laidL hr1 hl rs.reverse)
def rMulT (K : PySem.W.Frag) : R2 := fun x y H Q => ∃ (p : Addr) (v : V) (k : Int), x = .ref p ∧ y = .int k ∧ SqT K H p [v] ∧ 1 ≤ k ∧ k ≤ 5 ∧ (k = 1 → Q (.ref p) H) ∧ ∀ l, H l = none → Q (.ref l) (upd H l (.tup (List.replicate k.toNat v)))
theorem op_mulT : OpR X (binaryOp .Mult) (rMulT X.K) := by
  intro pins s σ H x y v u Q I rx ry h
  obtain ⟨p, v0, k, rfl, rfl, hq, h1, h5, q1, q⟩ := h
  cases rx
  obtain ⟨t, rfl⟩ := ry
  obtain ⟨its, r, ht, hz⟩ := I.tuple hq
  obtain ⟨w, rfl, rw'⟩ := vals1 r
  obtain ⟨⟨cls, dd, data, sl⟩, ho, hcl, n, hd⟩ := id ht
  replace hcl : cls = .type "tuple" := hcl
  replace hd : data = .seq #[w] n := hd
  subst hcl hd
  have road : ∀ {Q' : Value → Shared → Prop}, wpAny (model X.prog X.w) X.A (call (.builtin "tuple.__mul__") [.ref p, .int k t]) Q' X.xe s → wpAny (model X.prog X.w) X.A (binaryOp .Mult (.ref p) (.int k t)) Q' X.xe s := fun hh =>
    wpAny_binaryOp_repeat_ref (T := "tuple") (U := "int") (by decide) ⟨_, ho, rfl⟩ (fun s' => typeIs_int s' k t) ZT.noFill_tuple_mul F.fills_int_mul F.slot_int_rmul ZT.repeat_tuple F.slot_int_index.lookup
      (call_meets F.slot_int_rmul (typeIs_int s k t) F.entry_int_rmul (F.args_int_rmul_2 _ _) (ZT.int_rmul_tuple k t p #[w] n dd sl) ⟨ho, rfl, ⟨_, ho, rfl⟩, hh⟩)
  have mk : ∀ (m : Nat) (ws : Array Value), ws.toList = List.replicate m w → m ≤ 5 → k = (m : Int) → EP X pins σ Q (.ref s.heap.objs.size) { s with heap := s.heap.push { cls := .type "tuple", data := .seq ws } } := by
    intro m ws hws hm hk
    have hv : Vals (List.replicate m v0) ws.toList := by
      rw [hws]
      clear hws hk hm q
      induction m with
      | zero => exact .nil
      | succ m ih => rw [List.replicate_succ, List.replicate_succ]; exact .cons rw' ih
    have hn : H s.heap.objs.size = none := I.hok.fresh (Nat.le_refl _)
    refine ⟨.ref _, upd H s.heap.objs.size (.tup (List.replicate m v0)), I.laid (t' := s.toks) (fun b o e => Heap.get?_push_of_some _ e) (Nat.le_refl _) ⟨by rw [List.length_replicate, sizeLine_eq]; omega, ws.toList, hv, ?_⟩, rfl, ?_⟩
    · exact ⟨_, Heap.get?_push_size _ rfl, rfl, _, by simp; rfl⟩
    · have := q _ hn
      rw [hk] at this
      simpa using this
  have hk : k = 1 ∨ k = 2 ∨ k = 3 ∨ k = 4 ∨ k = 5 := by omega
  rcases hk with rfl | rfl | rfl | rfl | rfl
  · exact road (call_meets F.slot_tuple_mul ⟨_, ho, rfl⟩ F.entry_tuple_mul (F.args_tuple_mul_2 _ _) (ZT.tuple_mul1 p #[w] n dd sl t) ⟨ho, ⟨.ref p, H, I, rfl, q1 rfl⟩⟩)
  · exact road (call_meets F.slot_tuple_mul ⟨_, ho, rfl⟩ F.entry_tuple_mul (F.args_tuple_mul_2 _ _) (ZT.tuple_mul2 p w n dd sl t) ⟨ho, mk 2 _ rfl (by decide) rfl⟩)
  · exact road (call_meets F.slot_tuple_mul ⟨_, ho, rfl⟩ F.entry_tuple_mul (F.args_tuple_mul_2 _ _) (ZT.tuple_mul3 p w n dd sl t) ⟨ho, mk 3 _ rfl (by decide) rfl⟩)
  · exact road (call_meets F.slot_tuple_mul ⟨_, ho, rfl⟩ F.entry_tuple_mul (F.args_tuple_mul_2 _ _) (ZT.tuple_mul4 p w n dd sl t) ⟨ho, mk 4 _ rfl (by decide) rfl⟩)
  · exact road (call_meets F.slot_tuple_mul ⟨_, ho, rfl⟩ F.entry_tuple_mul (F.args_tuple_mul_2 _ _) (ZT.tuple_mul5 p w n dd sl t) ⟨ho, mk 5 _ rfl (by decide) rfl⟩)
def opMulT (x y : M) (_ : HpM) : Option M := match x, y with
  | .tup [m], .int k => if 1 ≤ k ∧ k ≤ 5 then some (.tup (List.replicate k.toNat m)) else none
  | _, _ => none
theorem RepAs.replicate {α : Pl} {H : Hp} {m : M} {v : V} (h : RepA K α H m v) : ∀ n : Nat, RepAs K α H (List.replicate n m) (List.replicate n v)
  | 0 => rfl
  | n + 1 => ⟨v, _, rfl, h, RepAs.replicate h n⟩
theorem fm_mulT : OpM K (rMulT K) opMulT := by
  intro α h H x y d u v Q hr rx ry e k
  unfold opMulT at e
  split at e
  · split at e
    · rename_i m kk hk
      cases e
      obtain ⟨p, vs, rfl, t, rs⟩ := rx
      obtain ⟨v0, rfl, r0⟩ := rep1 rs
      cases (show v = .int kk from ry)
      refine ⟨p, v0, kk, rfl, rfl, t.sq, hk.1, hk.2, fun e => ?_, fun l hl => k _ _ (same_new hl _) (laidT hr hl (RepAs.replicate r0 _))⟩
      subst e
      exact k H _ (Same.refl _) ⟨p, [v0], rfl, t, rs⟩
    · cases e
  · cases e
def rSortedT (K : PySem.W.Frag) : List V → Hp → VK → Prop := fun xs H Q => ∃ (p : Addr) (ns : List Int), xs = [.ref p] ∧ SqT K H p (ns.map V.int) ∧ ns.length < 64 ∧ ∀ l, H l = none → Q (.ref l) (upd H l (.lst ((sortI ns).map V.int)))
theorem call_sortedT : CallR X (.builtin "sorted") (rSortedT X.K) := by
  intro pins s σ H xs us Q I r h
  obtain ⟨p, ns, rfl, hp, hl, q⟩ := h
  obtain ⟨u, rfl, ru⟩ := vals1 r
  obtain rfl : u = Value.ref p := ru
  obtain ⟨its, rv, pl, hz⟩ := I.tuple hp
  have hI := intsAre_of' rv
  have hlen := rv.length
  simp only [List.length_map] at hlen
  refine ZT.sorted_intsT (show s.heap.IsTuple p its.toArray from pl) hI (by omega) fun out ns' h1 h2 h3 => ?_
  obtain ⟨e, he⟩ := sortedAll_at s.heap its out
  have ens : ns' = sortI ns := perm_eq leI_anti (h2.trans (List.mergeSort_perm ns leI).symm) (h3.imp fun h => by simpa [leI] using h) (sortI_pw ns)
  subst ens
  have hn : H (s.heap.objs.size + 1) = none := I.hok.fresh (Nat.le_succ _)
  refine ⟨.ref _, upd H (s.heap.objs.size + 1) (.lst ((sortI ns).map V.int)), I.laid (t' := s.toks) (fun b o e => sortedAll_old e) (Nat.le_succ _) ⟨?_, out.toList, e, vals_intsM h1, by simpa using he⟩, rfl, q _ hn⟩
  rw [List.length_map, sizeLine_eq]
  have := (List.mergeSort_perm ns leI).length_eq
  show (ns.mergeSort leI).length ≤ _
  omega
def bSortedT (xs : List M) (_ : HpM) : Option M := match xs with
  | [.tup ys] => if ys.length < 64 then (intsM ys).map fun ns => .lst ((sortI ns).map .int) else none
  | _ => none
theorem fm_sortedT : CallM K (rSortedT K) bSortedT := by
  intro α h H xs d us Q hr rs e k
  unfold bSortedT at e
  split at e
  · split at e
    · rename_i hl
      obtain ⟨ns, e1, e2⟩ := Option.map_eq_some_iff.mp e
      subst e2
      obtain ⟨u, rfl, ru⟩ := rep1 rs
      obtain ⟨p, vs, rfl, t, rv⟩ := ru
      have ht := t.sq
      rw [intsM_rep e1 rv] at ht
      exact ⟨p, ns, rfl, ht, by rw [intsM_len e1]; exact hl, fun l hl => k _ _ (same_new hl _) (laidL hr hl RepAs.ints)⟩
    · cases e
  · cases e
end
end L2
set_option Elab.async false
set_option linter.all false
set_option maxRecDepth 100000
namespace L2
open PySem PySem.Spec PyProof.Rows
section
variable {X : Cx} {K : PySem.W.Frag} {a b c : Expr} {ta : TA} {mas : FA} {pos : Pos}
def iAny (K : PySem.W.Frag) (tl : TE) : TI := fun σ H R => tl σ H fun x H1 => (∃ a, x = .ref a ∧ (∃ xs, SqL K H1 a xs) ∧ R (Itl K a) H1) ∨ ∃ a, x = .ref a ∧ (∃ xs, SqT K H1 a xs) ∧ R (Itt K a) H1
theorem pi_anyL {l tg : Expr} {tl : TE} (hl : PE X l tl) : PI X tg l (iAny X.K tl) := by
  intro pins s σ H R I h
  refine thn (hl pins s σ H _ I h) fun v s1 ⟨x, H1, I1, r1, q1⟩ => ?_
  have fp : ∀ b ∈ [s1.heap.objs.size], FpOk X pins H1 b := fun b hb => by
    have e : b = s1.heap.objs.size := by simpa using hb
    rw [e]
    exact I1.fpOk (Nat.le_refl _) (I1.hok.fresh (Nat.le_refl _))
  rcases q1 with ⟨a, e, ⟨xs, hq⟩, q⟩ | ⟨a, e, ⟨xs, hq⟩, q⟩
  · subst e
    cases r1
    obtain ⟨its, rv, p, hz⟩ := I1.list hq
    refine wpAny_pyIter_list p.isList ?_
    exact ⟨s1.heap.objs.size, [s1.heap.objs.size], _, _, H1, rfl, I1.kept (t' := s1.toks) fun b o e => Heap.get?_push_of_some _ e, turn_list a _, ⟨_, Heap.get?_push_size _ rfl, rfl, rfl⟩, fp, q⟩
  · subst e
    cases r1
    obtain ⟨its, rv, p, hz⟩ := I1.tuple hq
    refine wpAny_pyIter_tuple (show s1.heap.IsTuple a its.toArray from p) ?_
    exact ⟨s1.heap.objs.size, [s1.heap.objs.size], _, _, H1, rfl, I1.kept (t' := s1.toks) fun b o e => Heap.get?_push_of_some _ e, turn_tuple a _, ⟨_, Heap.get?_push_size _ rfl, rfl, rfl⟩, fp, q⟩
def iA (a : FE) : FI := fun ρ h => bnd (a ρ h) fun x h1 => match x with
  | .tup xs => some ((xs, none), h1)
  | .lst xs => some ((xs, none), h1)
  | _ => none
theorem mi_any {l tg : Expr} {ml : FE} (hl : PE X l (tM X.K ml)) : PI X tg l (iM X.K (iA ml)) := (pi_anyL hl).imp fun σ H R ⟨α, ρ, h, s, h', hσ, hr, e, k⟩ => by
  obtain ⟨x, h1, e1, e⟩ := bnd_inv e
  split at e
  · cases e
    refine ⟨α, ρ, h, _, _, hσ, hr, e1, fun α1 H1 v ev1 hr1 rv => .inr ?_⟩
    obtain ⟨a, vs, rfl, ha, rs⟩ := id rv
    refine ⟨a, rfl, ⟨vs, ha.sq⟩, k α1 H1 _ ev1 hr1 (wk_tup fun γ hγ α2 h2 H2 ev2 hr2 _ => ?_)⟩
    obtain ⟨a', vs', ea, ha', rs'⟩ := (rv.hides hγ).ev ev2
    cases ea
    exact ⟨vs', ha'.sq, rs'⟩
  · cases e
    refine ⟨α, ρ, h, _, _, hσ, hr, e1, fun α1 H1 v ev1 hr1 rv => .inl ?_⟩
    obtain ⟨a, vs, rfl, n, ha, rs⟩ := id rv
    refine ⟨a, rfl, ⟨vs, .of ha⟩, k α1 H1 _ ev1 hr1 (wk_list fun γ hγ α2 h2 H2 ev2 hr2 _ => ?_)⟩
    obtain ⟨a', vs', ea, n', ha', rs'⟩ := (rv.hides hγ).ev ev2
    cases ea
    exact ⟨vs', .of ha', rs'⟩
  · cases e
def tPar3 (i j k : Nat) (ta : TA) : TS := fun D σ H => ta σ H fun vs H1 => ∃ u v w, vs = [u, v, w] ∧ D.nx (((σ.set i (some u)).set j (some v)).set k (some w)) H1
theorem ps_par3 {i j k : Nat} {x y z : Str} {px py pz pt : Pos} {kt k2 pt2} (hc : X.calm = true) (hN : X.N.Nodup) (hi : X.N[i]? = some x) (hj : X.N[j]? = some y) (hk : X.N[k]? = some z) (hij : i ≠ j) (hik : i ≠ k) (hjk : j ≠ k)
    (hx : X.env.scope.names.lookup x = some .local) (hy : X.env.scope.names.lookup y = some .local) (hz : X.env.scope.names.lookup z = some .local) (ha : PA X [a, b, c] ta)
    (hw : swappedStores [.Tuple [.Name x px, .Name y py, .Name z pz] kt pt] (.Tuple [a, b, c] k2 pt2) X.env = pure (some [x, y, z]))
    (hs : swapsWithSole [.Tuple [.Name x px, .Name y py, .Name z pz] kt pt] (.Tuple [a, b, c] k2 pt2) pos.line X.env = pure false) :
    PS X (.Assign [.Tuple [.Name x px, .Name y py, .Name z pz] kt pt] (.Tuple [a, b, c] k2 pt2) pos) (tPar3 i j k ta) := by
  intro pins s σ H D I h
  rw [exec_Assign_arm]
  refine wpAny_bind (wpAny_standAt ?_)
  rw [hs]
  refine wpAny_bind (wpAny_pure ?_)
  rw [if_neg (by decide)]
  refine wpAny_bind (Tuple_ (thn (ha _ pins s σ H _ I h) fun us s1 ⟨vs, H1, I1, r1, q1⟩ => ?_))
  obtain ⟨v, w, w3, e1, q1⟩ := q1
  subst e1
  obtain ⟨u1, u2, u3, rfl, rv, rw', rw3⟩ : ∃ u1 u2 u3, us = [u1, u2, u3] ∧ RelV v u1 ∧ RelV w u2 ∧ RelV w3 u3 := by
    cases r1 with
    | cons p q =>
      cases q with
      | cons p' q' =>
        cases q' with
        | cons p'' q'' =>
          cases q''
          exact ⟨_, _, _, rfl, p, p', p''⟩
  refine wpAny_newObj_type ?_ (by show 3 ≤ sizeLine; decide)
  have I2 : Inv X pins σ H1 { s1 with heap := s1.heap.push { cls := .type "tuple", data := .seq [u1, u2, u3].toArray } } := I1.kept (t' := s1.toks) fun b o e => Heap.get?_push_of_some _ e
  rw [hw]
  refine wpAny_bind (wpAny_pure ?_)
  show wpAny (model X.prog X.w) X.A (do rule "assign.swapped-stores"; let items ← unpackItems (.ref s1.heap.objs.size) 3 none; assignInOrder [fun v => bindName X.env z v, fun v => bindName X.env y v, fun v => bindName X.env x v] items.reverse; pure Flow.next) _ _ _
  refine wpAny_bind (wpAny_rule (wpAny_bind (unpackItems_tuple (items := #[u1, u2, u3]) (I.ok.hd hc) (IsTup.new s1.heap _) fun h' hx' => ?_)))
  have I3 := I2.kept (h' := h') (t' := s1.toks) fun b o e => hx' b o (Nat.ne_of_lt (Heap.lt_size e)) e
  show wpAny _ _ (assignInOrder [fun v => bindName X.env z v, fun v => bindName X.env y v, fun v => bindName X.env x v] [u3, u2, u1] >>= fun _ => pure Flow.next) _ _ _
  refine wpAny_bind (assignInOrder_cons (wpAny_bindName (store_ok I3 hN hk (.inl hz) rw3 (fun s2 I4 => ?_) (.inr hz))))
  refine assignInOrder_cons (wpAny_bindName (store_ok I4 hN hj (.inl hy) rw' (fun s3 I5 => ?_) (.inr hy)))
  refine assignInOrder_cons (wpAny_bindName (store_ok I5 hN hi (.inl hx) rv (fun s4 I6 => assignInOrder_nil (wpAny_pure ?_)) (.inr hx)))
  rw [List.set_comm _ _ (Ne.symm hij), List.set_comm _ _ (Ne.symm hik), List.set_comm _ _ (Ne.symm hjk)] at I6
  exact ⟨_, H1, I6, q1⟩
def sPar3 (i j k : Nat) (a : FA) : FS := fun ρ h => bnd (a ρ h) fun xs h1 => match xs with | [x, y, z] => some (.nx (((ρ.set i (some x)).set j (some y)).set k (some z)), h1) | _ => none
theorem ms_par3 {i j k : Nat} {x y z : Str} {px py pz pt : Pos} {kt k2 pt2} (hc : X.calm = true) (hN : X.N.Nodup) (hi : X.N[i]? = some x) (hj : X.N[j]? = some y) (hk : X.N[k]? = some z) (hij : i ≠ j) (hik : i ≠ k) (hjk : j ≠ k)
    (hx : X.env.scope.names.lookup x = some .local) (hy : X.env.scope.names.lookup y = some .local) (hz : X.env.scope.names.lookup z = some .local) (ha : PA X [a, b, c] (aM X.K mas))
    (hw : swappedStores [.Tuple [.Name x px, .Name y py, .Name z pz] kt pt] (.Tuple [a, b, c] k2 pt2) X.env = pure (some [x, y, z]))
    (hs : swapsWithSole [.Tuple [.Name x px, .Name y py, .Name z pz] kt pt] (.Tuple [a, b, c] k2 pt2) pos.line X.env = pure false) :
    PS X (.Assign [.Tuple [.Name x px, .Name y py, .Name z pz] kt pt] (.Tuple [a, b, c] k2 pt2) pos) (sM X.K (sPar3 i j k mas)) := (ps_par3 hc hN hi hj hk hij hik hjk hx hy hz ha hw hs).imp fun D σ H ⟨α, ρ, h, d, h', hσ, hr, e, kk⟩ => by
  obtain ⟨xs, h1, e1, e⟩ := bnd_inv e
  split at e
  · cases e
    refine ⟨α, ρ, h, _, _, hσ, hr, e1, fun α1 H1 vs ev1 hr1 rs => ?_⟩
    obtain ⟨u, v, w, rfl, ru, rv, rw'⟩ := rep3 rs
    exact ⟨u, v, w, rfl, kk α1 H1 ev1 hr1 _ ((((hσ.ev ev1).set ru).set rv).set rw')⟩
  · cases e
end
section
variable {ma : FE} {mas : FA} {ρ : EnvM} {h : HpM} {S : Out → HpM → Prop} {R : M → Prop}
theorem e_par3 {i j k : Nat} (q : Ens (mas ρ h) fun xs h1 => ∃ x y z, xs = [x, y, z] ∧ S (.nx (((ρ.set i (some x)).set j (some y)).set k (some z))) h1) : Ens (sPar3 i j k mas ρ h) S := .bnd (q.mono fun xs h1 q => by obtain ⟨x, y, z, rfl, q⟩ := q; exact .ret q)
theorem e_iAT {s : SI} (q : Ens (ma ρ h) fun x h1 => ∃ xs, (x = .tup xs ∨ x = .lst xs) ∧ s (xs, none) h1) : Ens (iA ma ρ h) s := .bnd (q.mono fun x h1 q => by
  obtain ⟨xs, e, q⟩ := q
  rcases e with rfl | rfl
  · exact .ret q
  · exact .ret q)
theorem p_rev {xs : List M} (q : R (.lst xs.reverse)) : Enp (opRev (.lst xs) h) R := ⟨_, rfl, q⟩
theorem p_mulT {m : M} {k : Int} (h1 : 1 ≤ k) (h5 : k ≤ 5) (q : R (.tup (List.replicate k.toNat m))) : Enp (opMulT (.tup [m]) (.int k) h) R := ⟨_, if_pos ⟨h1, h5⟩, q⟩
theorem intsM_map : ∀ ns : List Int, intsM (ns.map M.int) = some ns
  | [] => rfl
  | n :: ns => by show (intsM (ns.map M.int)).map (n :: ·) = _; rw [intsM_map ns]; rfl
theorem p_sortedT {ns : List Int} (hl : ns.length < 64) (q : R (.lst ((sortI ns).map .int))) : Enp (bSortedT [.tup (ns.map M.int)] h) R := ⟨_, by show (if _ then _ else _) = _; rw [if_pos (by simpa using hl), intsM_map]; rfl, q⟩
end
end L2

set_option Elab.async false
set_option linter.all false
set_option maxRecDepth 100000
set_option maxHeartbeats 4000000
namespace K57
open PySem L2
local macro_rules | `(tactic| walk_at "n") => `(tactic| exact ⟨by decide +kernel, by decide +kernel, by decide +kernel, by decide +kernel⟩)
def top (i : Nat) : Stmt := PySem.Challenge.pw_webstore_k57_plans_or_not.main.body.getD i (.Pass ⟨0, 0, 0, 0⟩)
abbrev s_is_number : Stmt := top 1
abbrev s_is_spot_number : Stmt := top 3
abbrev s_is_plan : Stmt := top 7
abbrev s_is_move : Stmt := top 8
abbrev s_many_for : Stmt := top 9
abbrev s_behind_move : Stmt := top 10
abbrev s_with_one : Stmt := top 11
abbrev s_is_whole : Stmt := top 12
abbrev s__law_box : Stmt := top 14
abbrev s__law_take : Stmt := top 15
abbrev s__law_pattern : Stmt := top 16
abbrev s__law_moves : Stmt := top 17
abbrev s__law_behind : Stmt := top 18
abbrev s__law_plan : Stmt := top 19
abbrev s__law_is_plan : Stmt := top 20
abbrev s__law_bent : Stmt := top 21
abbrev s_law : Stmt := top 22
theorem sc_is_number : FnScope ["thing"] ["thing"] (defScope s_is_number) := ⟨rfl, rfl, rfl, by decide +kernel, rfl, by decide +kernel, by decide +kernel⟩
theorem sc_is_spot_number : FnScope ["thing", "many"] ["thing", "many"] (defScope s_is_spot_number) := ⟨rfl, rfl, rfl, by decide +kernel, rfl, by decide +kernel, by decide +kernel⟩
theorem sc_is_plan : FnScope ["pattern", "thing", "state", "move"] ["pattern", "thing"] (defScope s_is_plan) := ⟨rfl, rfl, rfl, by decide +kernel, rfl, by decide +kernel, by decide +kernel⟩
theorem sc_is_move : FnScope ["pattern", "thing"] ["pattern", "thing"] (defScope s_is_move) := ⟨rfl, rfl, rfl, by decide +kernel, rfl, by decide +kernel, by decide +kernel⟩
theorem sc_many_for : FnScope ["pattern", "word"] ["pattern", "word"] (defScope s_many_for) := ⟨rfl, rfl, rfl, by decide +kernel, rfl, by decide +kernel, by decide +kernel⟩
theorem sc_behind_move : FnScope ["pattern", "state", "move", "laid", "came", "word", "number", "first", "second", "begin", "end"] ["pattern", "state", "move"] (defScope s_behind_move) := ⟨rfl, rfl, rfl, by decide +kernel, rfl, by decide +kernel, by decide +kernel⟩
theorem sc_with_one : FnScope ["numbers", "number"] ["numbers", "number"] (defScope s_with_one) := ⟨rfl, rfl, rfl, by decide +kernel, rfl, by decide +kernel, by decide +kernel⟩
theorem sc_is_whole : FnScope ["pattern", "state"] ["pattern", "state"] (defScope s_is_whole) := ⟨rfl, rfl, rfl, by decide +kernel, rfl, by decide +kernel, by decide +kernel⟩
theorem sc__law_box : FnScope ["_law_script", "_law_k", "_law_cell"] ["_law_script", "_law_k"] (defScope s__law_box) := ⟨rfl, rfl, rfl, by decide +kernel, rfl, by decide +kernel, by decide +kernel⟩
theorem sc__law_take : FnScope ["_law_box_here", "_law_many", "_law_digit", "_law_m"] ["_law_box_here", "_law_many"] (defScope s__law_take) := ⟨rfl, rfl, rfl, by decide +kernel, rfl, by decide +kernel, by decide +kernel⟩
theorem sc__law_pattern : FnScope ["_law_box_here", "_law_size", "_law_spots", "_law_bows", "_law_k", "_law_way"] ["_law_box_here"] (defScope s__law_pattern) := ⟨rfl, rfl, rfl, by decide +kernel, rfl, by decide +kernel, by decide +kernel⟩
theorem sc__law_moves : FnScope ["_law_pattern_here", "_law_spots", "_law_bows", "_law_moves_here", "_law_word", "_law_due", "_law_k", "_law_bow"] ["_law_pattern_here", "_law_spots", "_law_bows"] (defScope s__law_moves) := ⟨rfl, rfl, rfl, by decide +kernel, rfl, by decide +kernel, by decide +kernel⟩
theorem sc__law_behind : FnScope ["_law_pattern_here", "_law_spots", "_law_bows", "_law_move", "_law_word", "_law_k"] ["_law_pattern_here", "_law_spots", "_law_bows", "_law_move"] (defScope s__law_behind) := ⟨rfl, rfl, rfl, by decide +kernel, rfl, by decide +kernel, by decide +kernel⟩
theorem sc__law_plan : FnScope ["_law_box_here", "_law_pattern_here", "_law_plan_here", "_law_spots", "_law_bows", "_law_moves_here"] ["_law_box_here", "_law_pattern_here"] (defScope s__law_plan) := ⟨rfl, rfl, rfl, by decide +kernel, rfl, by decide +kernel, by decide +kernel⟩
theorem sc__law_is_plan : FnScope ["_law_pattern_here", "_law_thing", "_law_spots", "_law_bows", "_law_move"] ["_law_pattern_here", "_law_thing"] (defScope s__law_is_plan) := ⟨rfl, rfl, rfl, by decide +kernel, rfl, by decide +kernel, by decide +kernel⟩
theorem sc__law_bent : FnScope ["_law_box_here", "_law_pattern_here", "_law_plan_here", "_law_at", "_law_word", "_law_number", "_law_rest", "_law_some", "_law_odd"] ["_law_box_here", "_law_pattern_here", "_law_plan_here"] (defScope s__law_bent) := ⟨rfl, rfl, rfl, by decide +kernel, rfl, by decide +kernel, by decide +kernel⟩
theorem sc_law : FnScope ["_law_script", "_law_pattern_here", "_law_k", "_law_box_here", "_law_plan_here", "_law_turn", "_law_thing", "_law_found"] ["_law_script"] (defScope s_law) := ⟨rfl, rfl, rfl, by decide +kernel, rfl, by decide +kernel, by decide +kernel⟩
theorem q1 : NmOk (defScope s_is_number) "bool" .globalImplicit := (by walk_at "n")
theorem q3 : NmOk (defScope s_is_number) "int" .globalImplicit := (by walk_at "n")
theorem q2 : NmOk (defScope s_is_number) "isinstance" .globalImplicit := (by walk_at "n")
theorem q0 : NmOk (defScope s_is_number) "thing" .local := (by walk_at "n")
theorem q6 : NmOk (defScope s_is_spot_number) "is_number" .globalImplicit := (by walk_at "n")
theorem q5 : NmOk (defScope s_is_spot_number) "many" .local := (by walk_at "n")
theorem q4 : NmOk (defScope s_is_spot_number) "thing" .local := (by walk_at "n")
theorem q14 : NmOk (defScope s_is_plan) "START" .globalImplicit := (by walk_at "n")
theorem q13 : NmOk (defScope s_is_plan) "behind_move" .globalImplicit := (by walk_at "n")
theorem q12 : NmOk (defScope s_is_plan) "is_move" .globalImplicit := (by walk_at "n")
theorem q9 : NmOk (defScope s_is_plan) "is_whole" .globalImplicit := (by walk_at "n")
theorem q17 : NmOk (defScope s_is_plan) "isinstance" .globalImplicit := (by walk_at "n")
theorem q15 : NmOk (defScope s_is_plan) "list" .globalImplicit := (by walk_at "n")
theorem q11 : NmOk (defScope s_is_plan) "move" .local := (by walk_at "n")
theorem q7 : NmOk (defScope s_is_plan) "pattern" .local := (by walk_at "n")
theorem q8 : NmOk (defScope s_is_plan) "state" .local := (by walk_at "n")
theorem q10 : NmOk (defScope s_is_plan) "thing" .local := (by walk_at "n")
theorem q16 : NmOk (defScope s_is_plan) "tuple" .globalImplicit := (by walk_at "n")
theorem q22 : NmOk (defScope s_is_move) "MOVES" .globalImplicit := (by walk_at "n")
theorem q21 : NmOk (defScope s_is_move) "is_spot_number" .globalImplicit := (by walk_at "n")
theorem q25 : NmOk (defScope s_is_move) "isinstance" .globalImplicit := (by walk_at "n")
theorem q23 : NmOk (defScope s_is_move) "len" .globalImplicit := (by walk_at "n")
theorem q20 : NmOk (defScope s_is_move) "many_for" .globalImplicit := (by walk_at "n")
theorem q19 : NmOk (defScope s_is_move) "pattern" .local := (by walk_at "n")
theorem q18 : NmOk (defScope s_is_move) "thing" .local := (by walk_at "n")
theorem q24 : NmOk (defScope s_is_move) "tuple" .globalImplicit := (by walk_at "n")
theorem q28 : NmOk (defScope s_many_for) "len" .globalImplicit := (by walk_at "n")
theorem q27 : NmOk (defScope s_many_for) "pattern" .local := (by walk_at "n")
theorem q26 : NmOk (defScope s_many_for) "word" .local := (by walk_at "n")
theorem q34 : NmOk (defScope s_behind_move) "begin" .local := (by walk_at "n")
theorem q32 : NmOk (defScope s_behind_move) "came" .local := (by walk_at "n")
theorem q30 : NmOk (defScope s_behind_move) "end" .local := (by walk_at "n")
theorem q36 : NmOk (defScope s_behind_move) "first" .local := (by walk_at "n")
theorem q29 : NmOk (defScope s_behind_move) "laid" .local := (by walk_at "n")
theorem q39 : NmOk (defScope s_behind_move) "move" .local := (by walk_at "n")
theorem q33 : NmOk (defScope s_behind_move) "number" .local := (by walk_at "n")
theorem q38 : NmOk (defScope s_behind_move) "pattern" .local := (by walk_at "n")
theorem q37 : NmOk (defScope s_behind_move) "second" .local := (by walk_at "n")
theorem q40 : NmOk (defScope s_behind_move) "state" .local := (by walk_at "n")
theorem q31 : NmOk (defScope s_behind_move) "with_one" .globalImplicit := (by walk_at "n")
theorem q35 : NmOk (defScope s_behind_move) "word" .local := (by walk_at "n")
theorem q42 : NmOk (defScope s_with_one) "number" .local := (by walk_at "n")
theorem q41 : NmOk (defScope s_with_one) "numbers" .local := (by walk_at "n")
theorem q43 : NmOk (defScope s_with_one) "sorted" .globalImplicit := (by walk_at "n")
theorem q44 : NmOk (defScope s_with_one) "tuple" .globalImplicit := (by walk_at "n")
theorem q46 : NmOk (defScope s_is_whole) "len" .globalImplicit := (by walk_at "n")
theorem q47 : NmOk (defScope s_is_whole) "pattern" .local := (by walk_at "n")
theorem q45 : NmOk (defScope s_is_whole) "state" .local := (by walk_at "n")
theorem q48 : NmOk (defScope s__law_box) "_law_cell" .local := (by walk_at "n")
theorem q51 : NmOk (defScope s__law_box) "_law_k" .local := (by walk_at "n")
theorem q52 : NmOk (defScope s__law_box) "_law_script" .local := (by walk_at "n")
theorem q49 : NmOk (defScope s__law_box) "abs" .globalImplicit := (by walk_at "n")
theorem q50 : NmOk (defScope s__law_box) "int" .globalImplicit := (by walk_at "n")
theorem q53 : NmOk (defScope s__law_box) "len" .globalImplicit := (by walk_at "n")
theorem q56 : NmOk (defScope s__law_take) "_law_box_here" .local := (by walk_at "n")
theorem q57 : NmOk (defScope s__law_take) "_law_digit" .local := (by walk_at "n")
theorem q54 : NmOk (defScope s__law_take) "_law_m" .local := (by walk_at "n")
theorem q55 : NmOk (defScope s__law_take) "_law_many" .local := (by walk_at "n")
theorem q59 : NmOk (defScope s__law_pattern) "_law_bows" .local := (by walk_at "n")
theorem q61 : NmOk (defScope s__law_pattern) "_law_box_here" .local := (by walk_at "n")
theorem q64 : NmOk (defScope s__law_pattern) "_law_k" .local := (by walk_at "n")
theorem q65 : NmOk (defScope s__law_pattern) "_law_size" .local := (by walk_at "n")
theorem q58 : NmOk (defScope s__law_pattern) "_law_spots" .local := (by walk_at "n")
theorem q62 : NmOk (defScope s__law_pattern) "_law_take" .globalImplicit := (by walk_at "n")
theorem q66 : NmOk (defScope s__law_pattern) "_law_way" .local := (by walk_at "n")
theorem q63 : NmOk (defScope s__law_pattern) "range" .globalImplicit := (by walk_at "n")
theorem q60 : NmOk (defScope s__law_pattern) "tuple" .globalImplicit := (by walk_at "n")
theorem q70 : NmOk (defScope s__law_moves) "_law_bow" .local := (by walk_at "n")
theorem q73 : NmOk (defScope s__law_moves) "_law_bows" .local := (by walk_at "n")
theorem q76 : NmOk (defScope s__law_moves) "_law_due" .local := (by walk_at "n")
theorem q71 : NmOk (defScope s__law_moves) "_law_k" .local := (by walk_at "n")
theorem q67 : NmOk (defScope s__law_moves) "_law_moves_here" .local := (by walk_at "n")
theorem q68 : NmOk (defScope s__law_moves) "_law_pattern_here" .local := (by walk_at "n")
theorem q72 : NmOk (defScope s__law_moves) "_law_spots" .cell := (by walk_at "n")
theorem q77 : NmOk (defScope s__law_moves) "_law_word" .local := (by walk_at "n")
theorem q69 : NmOk (defScope s__law_moves) "enumerate" .globalImplicit := (by walk_at "n")
theorem q78 : NmOk (defScope s__law_moves) "int" .globalImplicit := (by walk_at "n")
theorem q74 : NmOk (defScope s__law_moves) "len" .globalImplicit := (by walk_at "n")
theorem q75 : NmOk (defScope s__law_moves) "range" .globalImplicit := (by walk_at "n")
theorem q80 : NmOk (defScope s__law_behind) "_law_bows" .local := (by walk_at "n")
theorem q81 : NmOk (defScope s__law_behind) "_law_k" .local := (by walk_at "n")
theorem q84 : NmOk (defScope s__law_behind) "_law_move" .local := (by walk_at "n")
theorem q83 : NmOk (defScope s__law_behind) "_law_pattern_here" .local := (by walk_at "n")
theorem q79 : NmOk (defScope s__law_behind) "_law_spots" .local := (by walk_at "n")
theorem q82 : NmOk (defScope s__law_behind) "_law_word" .local := (by walk_at "n")
theorem q91 : NmOk (defScope s__law_plan) "_law_behind" .globalImplicit := (by walk_at "n")
theorem q89 : NmOk (defScope s__law_plan) "_law_bows" .local := (by walk_at "n")
theorem q92 : NmOk (defScope s__law_plan) "_law_box_here" .local := (by walk_at "n")
theorem q90 : NmOk (defScope s__law_plan) "_law_moves" .globalImplicit := (by walk_at "n")
theorem q86 : NmOk (defScope s__law_plan) "_law_moves_here" .local := (by walk_at "n")
theorem q87 : NmOk (defScope s__law_plan) "_law_pattern_here" .local := (by walk_at "n")
theorem q85 : NmOk (defScope s__law_plan) "_law_plan_here" .local := (by walk_at "n")
theorem q88 : NmOk (defScope s__law_plan) "_law_spots" .local := (by walk_at "n")
theorem q94 : NmOk (defScope s__law_plan) "_law_take" .globalImplicit := (by walk_at "n")
theorem q93 : NmOk (defScope s__law_plan) "len" .globalImplicit := (by walk_at "n")
theorem q101 : NmOk (defScope s__law_is_plan) "_law_behind" .globalImplicit := (by walk_at "n")
theorem q95 : NmOk (defScope s__law_is_plan) "_law_bows" .local := (by walk_at "n")
theorem q100 : NmOk (defScope s__law_is_plan) "_law_move" .local := (by walk_at "n")
theorem q102 : NmOk (defScope s__law_is_plan) "_law_moves" .globalImplicit := (by walk_at "n")
theorem q97 : NmOk (defScope s__law_is_plan) "_law_pattern_here" .local := (by walk_at "n")
theorem q98 : NmOk (defScope s__law_is_plan) "_law_spots" .local := (by walk_at "n")
theorem q99 : NmOk (defScope s__law_is_plan) "_law_thing" .local := (by walk_at "n")
theorem q103 : NmOk (defScope s__law_is_plan) "bool" .globalImplicit := (by walk_at "n")
theorem q104 : NmOk (defScope s__law_is_plan) "isinstance" .globalImplicit := (by walk_at "n")
theorem q96 : NmOk (defScope s__law_is_plan) "len" .globalImplicit := (by walk_at "n")
theorem q106 : NmOk (defScope s__law_is_plan) "list" .globalImplicit := (by walk_at "n")
theorem q105 : NmOk (defScope s__law_is_plan) "tuple" .globalImplicit := (by walk_at "n")
theorem q111 : NmOk (defScope s__law_bent) "_law_at" .local := (by walk_at "n")
theorem q108 : NmOk (defScope s__law_bent) "_law_box_here" .local := (by walk_at "n")
theorem q114 : NmOk (defScope s__law_bent) "_law_number" .local := (by walk_at "n")
theorem q112 : NmOk (defScope s__law_bent) "_law_odd" .local := (by walk_at "n")
theorem q110 : NmOk (defScope s__law_bent) "_law_plan_here" .local := (by walk_at "n")
theorem q117 : NmOk (defScope s__law_bent) "_law_rest" .local := (by walk_at "n")
theorem q107 : NmOk (defScope s__law_bent) "_law_some" .local := (by walk_at "n")
theorem q109 : NmOk (defScope s__law_bent) "_law_take" .globalImplicit := (by walk_at "n")
theorem q115 : NmOk (defScope s__law_bent) "_law_word" .local := (by walk_at "n")
theorem q118 : NmOk (defScope s__law_bent) "len" .globalImplicit := (by walk_at "n")
theorem q113 : NmOk (defScope s__law_bent) "list" .globalImplicit := (by walk_at "n")
theorem q116 : NmOk (defScope s__law_bent) "reversed" .globalImplicit := (by walk_at "n")
theorem q134 : NmOk (defScope s_law) "_law_bent" .globalImplicit := (by walk_at "n")
theorem q137 : NmOk (defScope s_law) "_law_box" .globalImplicit := (by walk_at "n")
theorem q132 : NmOk (defScope s_law) "_law_box_here" .local := (by walk_at "n")
theorem q125 : NmOk (defScope s_law) "_law_found" .local := (by walk_at "n")
theorem q128 : NmOk (defScope s_law) "_law_is_plan" .globalImplicit := (by walk_at "n")
theorem q123 : NmOk (defScope s_law) "_law_k" .local := (by walk_at "n")
theorem q138 : NmOk (defScope s_law) "_law_pattern" .globalImplicit := (by walk_at "n")
theorem q126 : NmOk (defScope s_law) "_law_pattern_here" .local := (by walk_at "n")
theorem q136 : NmOk (defScope s_law) "_law_plan" .globalImplicit := (by walk_at "n")
theorem q133 : NmOk (defScope s_law) "_law_plan_here" .local := (by walk_at "n")
theorem q119 : NmOk (defScope s_law) "_law_script" .local := (by walk_at "n")
theorem q127 : NmOk (defScope s_law) "_law_thing" .local := (by walk_at "n")
theorem q124 : NmOk (defScope s_law) "_law_turn" .local := (by walk_at "n")
theorem q129 : NmOk (defScope s_law) "bool" .globalImplicit := (by walk_at "n")
theorem q131 : NmOk (defScope s_law) "is_plan" .globalImplicit := (by walk_at "n")
theorem q130 : NmOk (defScope s_law) "isinstance" .globalImplicit := (by walk_at "n")
theorem q120 : NmOk (defScope s_law) "len" .globalImplicit := (by walk_at "n")
theorem q121 : NmOk (defScope s_law) "min" .globalImplicit := (by walk_at "n")
theorem q122 : NmOk (defScope s_law) "range" .globalImplicit := (by walk_at "n")
theorem q135 : NmOk (defScope s_law) "tuple" .globalImplicit := (by walk_at "n")
def k_MOVES : M := .tup [.str "back", .str "forth", .str "lay", .str "meet"]
def k_START : M := .tup [.tup [], .tup []]
structure Adr where
 f_is_number : Addr
 d_is_number : FuncData
 f_is_spot_number : Addr
 d_is_spot_number : FuncData
 f_is_plan : Addr
 d_is_plan : FuncData
 f_is_move : Addr
 d_is_move : FuncData
 f_many_for : Addr
 d_many_for : FuncData
 f_behind_move : Addr
 d_behind_move : FuncData
 f_with_one : Addr
 d_with_one : FuncData
 f_is_whole : Addr
 d_is_whole : FuncData
 f__law_box : Addr
 d__law_box : FuncData
 f__law_take : Addr
 d__law_take : FuncData
 f__law_pattern : Addr
 d__law_pattern : FuncData
 f__law_moves : Addr
 d__law_moves : FuncData
 f__law_behind : Addr
 d__law_behind : FuncData
 f__law_plan : Addr
 d__law_plan : FuncData
 f__law_is_plan : Addr
 d__law_is_plan : FuncData
 f__law_bent : Addr
 d__law_bent : FuncData
 f_law : Addr
 d_law : FuncData
 u_MOVES : Value
 u_START : Value
structure Txt (K : PySem.W.Frag) (mg : Str → Option Value) (t : Adr) : Prop where
 F_is_number : Fun K "is_number" "is_number" s_is_number t.f_is_number t.d_is_number
 b_is_number : Binds K t.d_is_number ["thing"] []
 m_is_number : mg "is_number" = some (.ref t.f_is_number)
 F_is_spot_number : Fun K "is_spot_number" "is_spot_number" s_is_spot_number t.f_is_spot_number t.d_is_spot_number
 b_is_spot_number : Binds K t.d_is_spot_number ["thing", "many"] []
 m_is_spot_number : mg "is_spot_number" = some (.ref t.f_is_spot_number)
 F_is_plan : Fun K "is_plan" "is_plan" s_is_plan t.f_is_plan t.d_is_plan
 b_is_plan : Binds K t.d_is_plan ["pattern", "thing"] []
 m_is_plan : mg "is_plan" = some (.ref t.f_is_plan)
 F_is_move : Fun K "is_move" "is_move" s_is_move t.f_is_move t.d_is_move
 b_is_move : Binds K t.d_is_move ["pattern", "thing"] []
 m_is_move : mg "is_move" = some (.ref t.f_is_move)
 F_many_for : Fun K "many_for" "many_for" s_many_for t.f_many_for t.d_many_for
 b_many_for : Binds K t.d_many_for ["pattern", "word"] []
 m_many_for : mg "many_for" = some (.ref t.f_many_for)
 F_behind_move : Fun K "behind_move" "behind_move" s_behind_move t.f_behind_move t.d_behind_move
 b_behind_move : Binds K t.d_behind_move ["pattern", "state", "move"] []
 m_behind_move : mg "behind_move" = some (.ref t.f_behind_move)
 F_with_one : Fun K "with_one" "with_one" s_with_one t.f_with_one t.d_with_one
 b_with_one : Binds K t.d_with_one ["numbers", "number"] []
 m_with_one : mg "with_one" = some (.ref t.f_with_one)
 F_is_whole : Fun K "is_whole" "is_whole" s_is_whole t.f_is_whole t.d_is_whole
 b_is_whole : Binds K t.d_is_whole ["pattern", "state"] []
 m_is_whole : mg "is_whole" = some (.ref t.f_is_whole)
 F__law_box : Fun K "_law_box" "_law_box" s__law_box t.f__law_box t.d__law_box
 b__law_box : Binds K t.d__law_box ["_law_script", "_law_k"] []
 m__law_box : mg "_law_box" = some (.ref t.f__law_box)
 F__law_take : Fun K "_law_take" "_law_take" s__law_take t.f__law_take t.d__law_take
 b__law_take : Binds K t.d__law_take ["_law_box_here", "_law_many"] []
 m__law_take : mg "_law_take" = some (.ref t.f__law_take)
 F__law_pattern : Fun K "_law_pattern" "_law_pattern" s__law_pattern t.f__law_pattern t.d__law_pattern
 b__law_pattern : Binds K t.d__law_pattern ["_law_box_here"] []
 m__law_pattern : mg "_law_pattern" = some (.ref t.f__law_pattern)
 F__law_moves : Fun K "_law_moves" "_law_moves" s__law_moves t.f__law_moves t.d__law_moves
 b__law_moves : Binds K t.d__law_moves ["_law_pattern_here", "_law_spots", "_law_bows"] []
 m__law_moves : mg "_law_moves" = some (.ref t.f__law_moves)
 F__law_behind : Fun K "_law_behind" "_law_behind" s__law_behind t.f__law_behind t.d__law_behind
 b__law_behind : Binds K t.d__law_behind ["_law_pattern_here", "_law_spots", "_law_bows", "_law_move"] []
 m__law_behind : mg "_law_behind" = some (.ref t.f__law_behind)
 F__law_plan : Fun K "_law_plan" "_law_plan" s__law_plan t.f__law_plan t.d__law_plan
 b__law_plan : Binds K t.d__law_plan ["_law_box_here", "_law_pattern_here"] []
 m__law_plan : mg "_law_plan" = some (.ref t.f__law_plan)
 F__law_is_plan : Fun K "_law_is_plan" "_law_is_plan" s__law_is_plan t.f__law_is_plan t.d__law_is_plan
 b__law_is_plan : Binds K t.d__law_is_plan ["_law_pattern_here", "_law_thing"] []
 m__law_is_plan : mg "_law_is_plan" = some (.ref t.f__law_is_plan)
 F__law_bent : Fun K "_law_bent" "_law_bent" s__law_bent t.f__law_bent t.d__law_bent
 b__law_bent : Binds K t.d__law_bent ["_law_box_here", "_law_pattern_here", "_law_plan_here"] []
 m__law_bent : mg "_law_bent" = some (.ref t.f__law_bent)
 F_law : Fun K "law" "law" s_law t.f_law t.d_law
 b_law : Binds K t.d_law ["_law_script"] []
 m_law : mg "law" = some (.ref t.f_law)
 z_abs : mg "abs" = none
 z_bool : mg "bool" = none
 z_enumerate : mg "enumerate" = none
 z_int : mg "int" = none
 z_isinstance : mg "isinstance" = none
 z_len : mg "len" = none
 z_list : mg "list" = none
 z_min : mg "min" = none
 z_range : mg "range" = none
 z_reversed : mg "reversed" = none
 z_sorted : mg "sorted" = none
 z_tuple : mg "tuple" = none
 c_MOVES : mg "MOVES" = some t.u_MOVES
 r_MOVES : ConstM K k_MOVES t.u_MOVES
 c_START : mg "START" = some t.u_START
 r_START : ConstM K k_START t.u_START
noncomputable def b_is_number : FS :=
 (sRet (mAnd (mCB bInst (mCons (mVar 0) (mCons (mC (.ty "int")) mNil))) (mNot (mCB bInst (mCons (mVar 0) (mCons (mC (.ty "bool")) mNil))))))
noncomputable def m_is_number : FF := mFun 1 0 b_is_number
noncomputable def b_is_spot_number : FS :=
 (sRet (mAnd (mCall m_is_number (mCons (mVar 0) mNil)) (mChain opLe opLt (mC (.int 0)) (mVar 0) (mVar 1))))
noncomputable def m_is_spot_number : FF := mFun 2 0 b_is_spot_number
noncomputable def b_is_whole : FS :=
 (sRet (mAnd (mOp opEq (mCB bLen (mCons (mOp ixM (mVar 1) (mC (.int 0))) mNil)) (mCB bLen (mCons (mOp ixM (mVar 0) (mC (.int 0))) mNil))) (mOp opEq (mCB bLen (mCons (mOp ixM (mVar 1) (mC (.int 1))) mNil)) (mCB bLen (mCons (mOp ixM (mVar 0) (mC (.int 1))) mNil)))))
noncomputable def m_is_whole : FF := mFun 2 0 b_is_whole
noncomputable def b_many_for : FS :=
 (sRet (mCB bLen (mCons (mIf (tV (mOp opEq (mVar 1) (mC (.str "lay")))) (mOp ixM (mVar 0) (mC (.int 0))) (mOp ixM (mVar 0) (mC (.int 1)))) mNil)))
noncomputable def m_many_for : FF := mFun 2 0 b_many_for
noncomputable def b_is_move : FS :=
 (sSeq (sIf (tOrM (tNotM (tV (mCB bInst (mCons (mVar 1) (mCons (mC (.ty "tuple")) mNil))))) (tOrM (tV (mOp opNe (mCB bLen (mCons (mVar 1) mNil)) (mC (.int 2)))) (tV (mOp opNotIn (mOp ixM (mVar 1) (mC (.int 0))) (mC k_MOVES))))) (sRet (mC (.bl false))) sNext)
 (sRet (mCall m_is_spot_number (mCons (mOp ixM (mVar 1) (mC (.int 1))) (mCons (mCall m_many_for (mCons (mVar 0) (mCons (mOp ixM (mVar 1) (mC (.int 0))) mNil))) mNil)))))
noncomputable def m_is_move : FF := mFun 2 0 b_is_move
noncomputable def b_with_one : FS :=
 (sRet (mCB bTuple (mCons (mCB bSortedT (mCons (mOp opAdd (mVar 0) (mTup (mCons (mVar 1) mNil))) mNil)) mNil)))
noncomputable def m_with_one : FF := mFun 2 0 b_with_one
noncomputable def b_behind_move : FS :=
 (sSeq (sAsg (mVar 1) (gTp 2 (gsCons (gNm 3) (gsCons (gNm 4) gsNil))))
 (sSeq (sAsg (mVar 2) (gTp 2 (gsCons (gNm 5) (gsCons (gNm 6) gsNil))))
 (sSeq (sIf (tV (mOp opEq (mVar 5) (mC (.str "lay")))) (sRet (mIf (tV (mOp opIn (mVar 6) (mVar 3))) (mC .non) (mTup (mCons (mCall m_with_one (mCons (mVar 3) (mCons (mVar 6) mNil))) (mCons (mVar 4) mNil))))) sNext)
 (sSeq (sIf (tV (mOp opIn (mVar 6) (mVar 4))) (sRet (mC .non)) sNext)
 (sSeq (sAsg (mSl slM (mOp ixM (mOp ixM (mVar 0) (mC (.int 1))) (mVar 6)) oNo (oSome (mC (.int 2)))) (gTp 2 (gsCons (gNm 7) (gsCons (gNm 8) gsNil))))
 (sSeq (sIf (tV (mOp opEq (mVar 5) (mC (.str "meet")))) (sRet (mIf (tAndM (tV (mOp opIn (mVar 7) (mVar 3))) (tV (mOp opIn (mVar 8) (mVar 3)))) (mTup (mCons (mVar 3) (mCons (mCall m_with_one (mCons (mVar 4) (mCons (mVar 6) mNil))) mNil))) (mC .non))) sNext)
 (sSeq (sAsg (mIf (tV (mOp opEq (mVar 5) (mC (.str "forth")))) (mTup (mCons (mVar 7) (mCons (mVar 8) mNil))) (mTup (mCons (mVar 8) (mCons (mVar 7) mNil)))) (gTp 2 (gsCons (gNm 9) (gsCons (gNm 10) gsNil))))
 (sSeq (sIf (tOrM (tV (mOp opNotIn (mVar 9) (mVar 3))) (tV (mOp opIn (mVar 10) (mVar 3)))) (sRet (mC .non)) sNext)
 (sRet (mTup (mCons (mCall m_with_one (mCons (mVar 3) (mCons (mVar 10) mNil))) (mCons (mCall m_with_one (mCons (mVar 4) (mCons (mVar 6) mNil))) mNil))))))))))))
noncomputable def m_behind_move : FF := mFun 3 8 b_behind_move
noncomputable def b_is_plan : FS :=
 (sSeq (sIf (tNotM (tV (mCB bInst (mCons (mVar 1) (mCons (mTup (mCons (mC (.ty "list")) (mCons (mC (.ty "tuple")) mNil))) mNil))))) (sRet (mC (.bl false))) sNext)
 (sSeq (sAsg (mC k_START) (gNm 2))
 (sSeq (sFor (iA (mVar 1)) (gNm 3) (sSeq (sAsg (mIf (tV (mCall m_is_move (mCons (mVar 0) (mCons (mVar 3) mNil)))) (mCall m_behind_move (mCons (mVar 0) (mCons (mVar 2) (mCons (mVar 3) mNil)))) (mC .non)) (gNm 2))
 (sIf (tV (mOp opIs (mVar 2) (mC .non))) (sRet (mC (.bl false))) sNext)))
 (sRet (mCall m_is_whole (mCons (mVar 0) (mCons (mVar 2) mNil)))))))
noncomputable def m_is_plan : FF := mFun 2 2 b_is_plan
noncomputable def b__law_box : FS :=
 (sSeq (sAsg (mC (.int 0)) (gNm 2))
 (sSeq (sIf (tV (mOp opLt (mVar 1) (mCB bLen (mCons (mVar 0) mNil)))) (sAsg (mOp ixM (mVar 0) (mVar 1)) (gNm 2)) sNext)
 (sRet (mLstH (mCons (mOp opMul (mCB bAbs (mCons (mVar 2) mNil)) (mCB bInt (mCons (mOp opGe (mCB bAbs (mCons (mVar 2) mNil)) (mOp opPow (mC (.int 10)) (mC (.int 18)))) mNil))) (mCons (mOp opMod (mVar 2) (mC (.int 2305843009213693951))) (mCons (mOp opMul (mC (.int 7)) (mVar 1)) mNil)))))))
noncomputable def m__law_box : FF := mFun 2 1 b__law_box
noncomputable def b__law_take : FS :=
 (sSeq (sIf (tV (mOp opGt (mOp ixM (mVar 0) (mC (.int 0))) (mC (.int 0)))) (sSeq (sAsg (mOp opMod (mOp ixM (mVar 0) (mC (.int 0))) (mVar 1)) (gNm 2))
 (sSeq (sAsg (mOp opDiv (mOp ixM (mVar 0) (mC (.int 0))) (mVar 1)) (gSubM (mVar 0) (mC (.int 0))))
 (sRet (mVar 2)))) sNext)
 (sSeq (sAsg (mOp opAdd (mOp ixM (mVar 0) (mC (.int 2))) (mC (.int 1))) (gSubM (mVar 0) (mC (.int 2))))
 (sSeq (sAsg (mOp opMod (mOp opMul (mOp opAdd (mOp ixM (mVar 0) (mC (.int 1))) (mC (.int 3))) (mOp opAdd (mC (.int 48271)) (mOp opMul (mOp ixM (mVar 0) (mC (.int 2))) (mOp ixM (mVar 0) (mC (.int 2)))))) (mC (.int 2305843009213693921))) (gNm 3))
 (sSeq (sAsg (mOp opMod (mOp opMul (mVar 3) (mOp opAdd (mOp opAdd (mOp opMod (mVar 3) (mC (.int 1000003))) (mOp opMul (mOp ixM (mVar 0) (mC (.int 2))) (mC (.int 69621)))) (mC (.int 11)))) (mC (.int 2305843009213693907))) (gNm 3))
 (sRet (mOp opMod (mOp opAdd (mOp opDiv (mOp opMul (mVar 3) (mVar 3)) (mC (.int 97))) (mOp opDiv (mVar 3) (mC (.int 31)))) (mVar 1)))))))
noncomputable def m__law_take : FF := mFun 2 2 b__law_take
noncomputable def b__law_pattern : FS :=
 (sSeq (sAsg (mOp opAdd (mC (.int 1)) (mCall m__law_take (mCons (mVar 0) (mCons (mC (.int 4)) mNil)))) (gNm 1))
 (sSeq (sIf (tV (mOp opEq (mCall m__law_take (mCons (mVar 0) (mCons (mC (.int 8)) mNil))) (mC (.int 0)))) (sAsg (mC (.int 5)) (gNm 1)) sNext)
 (sSeq (sAsg (mOp opMulT (mTup (mCons (mTup (mCons (mC .non) (mCons (mTup (mCons (mC (.str "any")) mNil)) mNil))) mNil)) (mVar 1)) (gNm 2))
 (sSeq (sAsg (mLstH mNil) (gNm 3))
 (sSeq (sFor (iR1 (mCons (mCall m__law_take (mCons (mVar 0) (mCons (mC (.int 6)) mNil))) mNil)) (gNm 4) (sSeq (sAsg (mTup (mCons (mC (.str "step")) (mCons (mOp ixM (mLst (mCons (mC (.str "knows")) (mCons (mC .non) mNil))) (mCall m__law_take (mCons (mVar 0) (mCons (mC (.int 2)) mNil)))) (mCons (mC (.str "forth")) mNil)))) (gNm 5))
 (sDrop (mMt isL mAppend (mVar 3) (mCons (mTup (mCons (mCall m__law_take (mCons (mVar 0) (mCons (mVar 1) mNil))) (mCons (mCall m__law_take (mCons (mVar 0) (mCons (mVar 1) mNil))) (mCons (mOp ixM (mLst (mCons (mC (.str "any")) (mCons (mC (.str "all")) mNil))) (mCall m__law_take (mCons (mVar 0) (mCons (mC (.int 2)) mNil)))) (mCons (mVar 5) mNil))))) mNil)))))
 (sRet (mTup (mCons (mVar 2) (mCons (mCB bTuple (mCons (mVar 3) mNil)) (mCons (mTup mNil) mNil))))))))))
noncomputable def m__law_pattern : FF := mSeal (mFun 1 5 b__law_pattern)
noncomputable def b__law_moves : FS :=
 (sSeq (sAsg (mLstH mNil) (gNm 3))
 (sSeq (sFor (iT (mTup (mCons (mTup (mCons (mC (.str "back")) (mCons (mTup (mCons (mC (.int 0)) (mCons (mC (.int 1)) mNil))) mNil))) (mCons (mTup (mCons (mC (.str "forth")) (mCons (mTup (mCons (mC (.int 1)) (mCons (mC (.int 0)) mNil))) mNil))) mNil)))) (gTp 2 (gsCons (gNm 4) (gsCons (gNm 5) gsNil))) (sFor (iEnumerate (mCons (mOp ixM (mVar 0) (mC (.int 1))) mNil)) (gTp 2 (gsCons (gNm 6) (gsCons (gNm 7) gsNil))) (sIf (tAndM (tV (mOp opNotIn (mVar 6) (mVar 2))) (tV (mOp opEq (mTup (mCons (mCB bInt (mCons (mOp opIn (mOp ixM (mVar 7) (mC (.int 0))) (mVar 1)) mNil)) (mCons (mCB bInt (mCons (mOp opIn (mOp ixM (mVar 7) (mC (.int 1))) (mVar 1)) mNil)) mNil))) (mVar 5)))) (sDrop (mMt isL mAppend (mVar 3) (mCons (mTup (mCons (mVar 4) (mCons (mVar 6) mNil))) mNil))) sNext)))
 (sSeq (sDrop (mMt isL mExtend (mVar 3) (mCons (mComp [none, some 1] (iR1 (mCons (mCB bLen (mCons (mOp ixM (mVar 0) (mC (.int 0))) mNil)) mNil)) (gNm 0) (tV (mOp opNotIn (mVar 0) (mVar 1))) (mTup (mCons (mC (.str "lay")) (mCons (mVar 0) mNil)))) mNil)))
 (sSeq (sFor (iEnumerate (mCons (mOp ixM (mVar 0) (mC (.int 1))) mNil)) (gTp 2 (gsCons (gNm 6) (gsCons (gNm 7) gsNil))) (sIf (tAndM (tV (mOp opNotIn (mVar 6) (mVar 2))) (tAndM (tV (mOp opIn (mOp ixM (mVar 7) (mC (.int 0))) (mVar 1))) (tV (mOp opIn (mOp ixM (mVar 7) (mC (.int 1))) (mVar 1))))) (sDrop (mMt isL mAppend (mVar 3) (mCons (mTup (mCons (mC (.str "meet")) (mCons (mVar 6) mNil))) mNil))) sNext))
 (sRet (mVar 3))))))
noncomputable def m__law_moves : FF := mSeal (mFun 3 5 b__law_moves)
noncomputable def b__law_behind : FS :=
 (sSeq (sAsg (mVar 3) (gTp 2 (gsCons (gNm 4) (gsCons (gNm 5) gsNil))))
 (sSeq (sIf (tV (mOp opEq (mVar 4) (mC (.str "lay")))) (sRet (mTup (mCons (mOp opAdd (mVar 1) (mLst (mCons (mVar 5) mNil))) (mCons (mVar 2) mNil)))) sNext)
 (sSeq (sIf (tV (mOp opEq (mVar 4) (mC (.str "forth")))) (sAsg (mOp opAdd (mVar 1) (mLst (mCons (mOp ixM (mOp ixM (mOp ixM (mVar 0) (mC (.int 1))) (mVar 5)) (mC (.int 1))) mNil))) (gNm 1)) sNext)
 (sSeq (sIf (tV (mOp opEq (mVar 4) (mC (.str "back")))) (sAsg (mOp opAdd (mVar 1) (mLst (mCons (mOp ixM (mOp ixM (mOp ixM (mVar 0) (mC (.int 1))) (mVar 5)) (mC (.int 0))) mNil))) (gNm 1)) sNext)
 (sRet (mTup (mCons (mVar 1) (mCons (mOp opAdd (mVar 2) (mLst (mCons (mVar 5) mNil))) mNil))))))))
noncomputable def m__law_behind : FF := mFun 4 2 b__law_behind
noncomputable def b__law_plan : FS :=
 (sSeq (sPar3 2 3 4 (mCons (mLstH mNil) (mCons (mLst mNil) (mCons (mLst mNil) mNil))))
 (sSeq (sAsg (mCall m__law_moves (mCons (mVar 1) (mCons (mVar 3) (mCons (mVar 4) mNil)))) (gNm 5))
 (sSeq (mWhile (tV (mOp opNe (mVar 5) (mLst mNil))) (sSeq (sDrop (mMt isL mAppend (mVar 2) (mCons (mOp ixM (mVar 5) (mCall m__law_take (mCons (mVar 0) (mCons (mCB bLen (mCons (mVar 5) mNil)) mNil)))) mNil)))
 (sSeq (sAsg (mCall m__law_behind (mCons (mVar 1) (mCons (mVar 3) (mCons (mVar 4) (mCons (mOp ixM (mVar 2) (mUn opNeg (mC (.int 1)))) mNil))))) (gTp 2 (gsCons (gNm 3) (gsCons (gNm 4) gsNil))))
 (sAsg (mCall m__law_moves (mCons (mVar 1) (mCons (mVar 3) (mCons (mVar 4) mNil)))) (gNm 5)))) 1000000)
 (sRet (mVar 2)))))
noncomputable def m__law_plan : FF := mSeal (mFun 2 4 b__law_plan)
noncomputable def b__law_is_plan : FS :=
 (sSeq (sIf (tNotM (tV (mCB bInst (mCons (mVar 1) (mCons (mTup (mCons (mC (.ty "tuple")) (mCons (mC (.ty "list")) mNil))) mNil))))) (sRet (mC (.bl false))) sNext)
 (sSeq (sPar 2 3 (mCons (mLst mNil) (mCons (mLst mNil) mNil)))
 (sSeq (sFor (iA (mVar 1)) (gNm 4) (sSeq (sIf (tOrM (tNotM (tV (mCB bInst (mCons (mVar 4) (mCons (mC (.ty "tuple")) mNil))))) (tOrM (tV (mOp opNe (mCB bLen (mCons (mVar 4) mNil)) (mC (.int 2)))) (tV (mCB bInst (mCons (mOp ixM (mVar 4) (mC (.int 1))) (mCons (mC (.ty "bool")) mNil)))))) (sRet (mC (.bl false))) sNext)
 (sSeq (sIf (tV (mOp opNotIn (mVar 4) (mCall m__law_moves (mCons (mVar 0) (mCons (mVar 2) (mCons (mVar 3) mNil)))))) (sRet (mC (.bl false))) sNext)
 (sAsg (mCall m__law_behind (mCons (mVar 0) (mCons (mVar 2) (mCons (mVar 3) (mCons (mVar 4) mNil))))) (gTp 2 (gsCons (gNm 2) (gsCons (gNm 3) gsNil)))))))
 (sRet (mAnd (mOp opEq (mCB bLen (mCons (mVar 2) mNil)) (mCB bLen (mCons (mOp ixM (mVar 0) (mC (.int 0))) mNil))) (mOp opEq (mCB bLen (mCons (mVar 3) mNil)) (mCB bLen (mCons (mOp ixM (mVar 0) (mC (.int 1))) mNil))))))))
noncomputable def m__law_is_plan : FF := mFun 2 3 b__law_is_plan
noncomputable def b__law_bent : FS :=
 (sSeq (sAsg (mCall m__law_take (mCons (mVar 0) (mCons (mCB bLen (mCons (mVar 2) mNil)) mNil))) (gNm 3))
 (sSeq (sAsg (mOp ixM (mLst (mCons (mC (.str "lay")) (mCons (mC (.str "forth")) (mCons (mC (.str "back")) (mCons (mC (.str "meet")) (mCons (mC (.str "Lay")) (mCons (mC (.str "")) (mCons (mC (.str "walk")) mNil)))))))) (mCall m__law_take (mCons (mVar 0) (mCons (mC (.int 7)) mNil)))) (gNm 4))
 (sSeq (sAsg (mOp opSub (mCall m__law_take (mCons (mVar 0) (mCons (mC (.int 7)) mNil))) (mC (.int 1))) (gNm 5))
 (sSeq (sAsg (mOp opAdd (mSl slM (mVar 2) oNo (oSome (mVar 3))) (mSl slM (mVar 2) (oSome (mOp opAdd (mVar 3) (mC (.int 1)))) oNo)) (gNm 6))
 (sSeq (sAsg (mLstH (mCons (mVar 6) (mCons (mOp opAdd (mVar 2) (mLst (mCons (mOp ixM (mVar 2) (mVar 3)) mNil))) (mCons (mOp opAdd (mVar 6) (mLst (mCons (mOp ixM (mVar 2) (mVar 3)) mNil))) (mCons (mOp opAdd (mLst (mCons (mOp ixM (mVar 2) (mVar 3)) mNil)) (mVar 6)) (mCons (mOp opAdd (mVar 2) (mLst (mCons (mTup (mCons (mVar 4) (mCons (mVar 5) mNil))) mNil))) mNil)))))) (gNm 7))
 (sSeq (sDrop (mMt isL mAppend (mVar 7) (mCons (mUn opRev (mVar 2)) mNil)))
 (sSeq (sAsg (mAddH (mVar 7) (mLst (mCons (mOp opAdd (mOp opAdd (mSl slM (mVar 2) oNo (oSome (mVar 3))) (mLst (mCons (mTup (mCons (mVar 4) (mCons (mOp ixM (mOp ixM (mVar 2) (mVar 3)) (mC (.int 1))) mNil))) mNil))) (mSl slM (mVar 2) (oSome (mOp opAdd (mVar 3) (mC (.int 1)))) oNo)) mNil))) (gNm 7))
 (sSeq (sAsg (mAddH (mVar 7) (mLst (mCons (mOp opAdd (mOp opAdd (mSl slM (mVar 2) oNo (oSome (mVar 3))) (mLst (mCons (mTup (mCons (mOp ixM (mOp ixM (mVar 2) (mVar 3)) (mC (.int 0))) (mCons (mVar 5) mNil))) mNil))) (mSl slM (mVar 2) (oSome (mOp opAdd (mVar 3) (mC (.int 1)))) oNo)) mNil))) (gNm 7))
 (sSeq (sAsg (mLst (mCons (mC .non) (mCons (mTup (mCons (mOp ixM (mOp ixM (mVar 2) (mVar 3)) (mC (.int 0))) mNil)) (mCons (mCB bList (mCons (mOp ixM (mVar 2) (mVar 3)) mNil)) (mCons (mTup (mCons (mOp ixM (mOp ixM (mVar 2) (mVar 3)) (mC (.int 0))) (mCons (mC (.bl true)) mNil))) (mCons (mTup (mCons (mOp ixM (mOp ixM (mVar 2) (mVar 3)) (mC (.int 0))) (mCons (mOp ixM (mOp ixM (mVar 2) (mVar 3)) (mC (.int 1))) (mCons (mC (.int 0)) mNil)))) (mCons (mC (.str "lay")) mNil))))))) (gNm 8))
 (sSeq (sAsg (mOp opAdd (mVar 8) (mLst (mCons (mTup (mCons (mOp ixM (mOp ixM (mVar 2) (mVar 3)) (mC (.int 1))) (mCons (mOp ixM (mOp ixM (mVar 2) (mVar 3)) (mC (.int 0))) mNil))) (mCons (mTup (mCons (mOp ixM (mOp ixM (mVar 2) (mVar 3)) (mC (.int 0))) (mCons (mC .non) mNil))) (mCons (mTup (mCons (mOp ixM (mOp ixM (mVar 2) (mVar 3)) (mC (.int 0))) (mCons (mC (.str "0")) mNil))) (mCons (mC (.int 7)) (mCons (mTup mNil) (mCons (mTup (mCons (mTup mNil) (mCons (mTup mNil) mNil))) mNil)))))))) (gNm 8))
 (sSeq (sAsg (mAddH (mVar 7) (mLst (mCons (mOp opAdd (mOp opAdd (mSl slM (mVar 2) oNo (oSome (mVar 3))) (mLst (mCons (mOp ixM (mVar 8) (mCall m__law_take (mCons (mVar 0) (mCons (mC (.int 12)) mNil)))) mNil))) (mSl slM (mVar 2) (oSome (mOp opAdd (mVar 3) (mC (.int 1)))) oNo)) mNil))) (gNm 7))
 (sSeq (sAsg (mAddH (mVar 7) (mLst (mCons (mOp ixM (mLst (mCons (mC .non) (mCons (mTup mNil) (mCons (mLst mNil) (mCons (mC (.int 0)) (mCons (mC (.str "lay")) (mCons (mC (.bl true)) (mCons (mTup (mCons (mC (.str "lay")) (mCons (mC (.int 0)) mNil))) (mCons (mLst (mCons (mTup (mCons (mC (.str "lay")) (mCons (mC (.int 0)) mNil))) mNil)) (mCons (mC (.str "plan")) mNil)))))))))) (mCall m__law_take (mCons (mVar 0) (mCons (mC (.int 9)) mNil)))) mNil))) (gNm 7))
 (sRet (mOp ixM (mVar 7) (mCall m__law_take (mCons (mVar 0) (mCons (mC (.int 10)) mNil)))))))))))))))))
noncomputable def m__law_bent : FF := mSeal (mFun 3 6 b__law_bent)
noncomputable def b_law : FS :=
 (sSeq (sAsg (mCall m__law_pattern (mCons (mCall m__law_box (mCons (mVar 0) (mCons (mC (.int 1)) mNil))) mNil)) (gNm 1))
 (sSeq (sFor (iR1 (mCons (mCB bMin (mCons (mC (.int 20)) (mCons (mOp opAdd (mC (.int 1)) (mCB bLen (mCons (mVar 0) mNil))) mNil))) mNil)) (gNm 2) (sSeq (sAsg (mCall m__law_box (mCons (mVar 0) (mCons (mVar 2) mNil))) (gNm 3))
 (sSeq (sAsg (mCall m__law_plan (mCons (mVar 3) (mCons (mVar 1) mNil))) (gNm 4))
 (sSeq (sIf (tOrM (tV (mOp opIsNot (mCall m_is_plan (mCons (mVar 1) (mCons (mVar 4) mNil))) (mC (.bl true)))) (tV (mOp opIsNot (mCall m_is_plan (mCons (mVar 1) (mCons (mCB bTuple (mCons (mVar 4) mNil)) mNil))) (mC (.bl true))))) (sRet (mC (.bl false))) sNext)
 (sFor (iR1 (mCons (mC (.int 4)) mNil)) (gNm 5) (sSeq (sAsg (mCall m__law_bent (mCons (mVar 3) (mCons (mVar 1) (mCons (mVar 4) mNil)))) (gNm 6))
 (sSeq (sAsg (mCall m_is_plan (mCons (mVar 1) (mCons (mVar 6) mNil))) (gNm 7))
 (sIf (tOrM (tNotM (tV (mCB bInst (mCons (mVar 7) (mCons (mC (.ty "bool")) mNil))))) (tV (mOp opNe (mVar 7) (mCall m__law_is_plan (mCons (mVar 1) (mCons (mVar 6) mNil)))))) (sRet (mC (.bl false))) sNext))))))))
 (sRet (mC (.bl true)))))
noncomputable def m_law : FF := mFun 1 7 b_law
end K57
set_option Elab.async false
set_option linter.all false
set_option maxRecDepth 100000
set_option maxHeartbeats 8000000
namespace K57
open PySem L2
local macro_rules | `(tactic| walk_at "n") => `(tactic| exact ⟨by decide +kernel, by decide +kernel, by decide +kernel, by decide +kernel⟩)
local macro_rules | `(tactic| apply $e:term) => `(tactic| with_reducible refine' $e)
local macro_rules | `(tactic| walk_at "late") => `(tactic| first | rfl | exact True.intro | exact nomark _ | exact PassesOwn.never | exact Room.mono (by assumption) (by omega) | exact fun _ _ => rfl | (intro _; rfl) | with_unfolding_all rfl | exact Or.inl rfl | decide | simp)
section
variable {P : Program} {w : World} {K : PySem.W.Frag} {mg : Str → Option Value} {base : Heap} {t : Adr}
theorem ok_is_number (T : Txt K mg t) : FnOk P w K mg base CX0 1 t.f_is_number t.d_is_number ["thing"] (spM K m_is_number) := by
 refine T.F_is_number.okM (k := 0) sc_is_number rfl fun cdv A outer s H E hr => ?_
 unfold b_is_number
 conv => arg 2; whnf
 apply mss_one ?_
 apply ms_ret ?_
 apply me_and ?d3 ?d4
 case' d3 => apply me_CB call_instM fm_inst ?d5 ?d6 PyProof.Rows.boot_isinstance ?d7 ?_ ?_
 case d5 => exact q2
 case d6 => exact T.z_isinstance
 case' d7 => apply ma_2 ?d8 ?d9 ?_ ?_
 case d8 => exact (me_var (pvk 0 q0))
 case' d9 => apply me_C ?d10 ?_
 case' d10 => apply pe_bltnk (v := .ty "int") ?d11 ?d12 ?_ ?_
 case d11 => exact q3
 case d12 => exact T.z_int
 case' d4 => apply me_one ?_
 case' d4 => apply me_not ?_
 case' d4 => apply me_CB call_instM fm_inst ?d15 ?d16 PyProof.Rows.boot_isinstance ?d17 ?_ ?_
 case d15 => exact q2
 case d16 => exact T.z_isinstance
 case' d17 => apply ma_2 ?d18 ?d19 ?_ ?_
 case d18 => exact (me_var (pvk 0 q0))
 case' d19 => apply me_C ?d20 ?_
 case' d20 => apply pe_bltnk (v := .ty "bool") ?d21 ?d22 ?_ ?_
 case d21 => exact q1
 case d22 => exact T.z_bool
 all_goals (try walk_at "late")
theorem ok_is_spot_number (T : Txt K mg t) : FnOk P w K mg base CX0 2 t.f_is_spot_number t.d_is_spot_number ["thing", "many"] (spM K m_is_spot_number) := by
 have C_is_number := Cal.of (ok_is_number (P := P) (w := w) (base := base) T) T.m_is_number T.F_is_number.kp T.b_is_number
 refine T.F_is_spot_number.okM (k := 1) sc_is_spot_number rfl fun cdv A outer s H E hr => ?_
 unfold b_is_spot_number
 conv => arg 2; whnf
 apply mss_one ?_
 apply ms_ret ?_
 apply me_and ?d3 ?d4
 case' d3 => apply me_cal ?d5 ?_ ?d6 ?d7 ?_ ?_
 case d5 => exact C_is_number
 case d6 => exact q6
 case' d7 => apply ma_1 ?d8 ?_
 case d8 => exact (me_var (pvk 0 q4))
 case' d4 => apply me_one ?_
 case' d4 => apply me_chain op_leA fm_le op_ltA fm_lt me_int ?d10 ?d11 ?_
 case d10 => exact (me_var (pvk 0 q4))
 case d11 => exact (me_var (pvk 1 q5))
 all_goals (try walk_at "late")
theorem ok_is_whole (T : Txt K mg t) : FnOk P w K mg base CX0 1 t.f_is_whole t.d_is_whole ["pattern", "state"] (spM K m_is_whole) := by
 refine T.F_is_whole.okM (k := 0) sc_is_whole rfl fun cdv A outer s H E hr => ?_
 unfold b_is_whole
 conv => arg 2; whnf
 apply mss_one ?_
 apply ms_ret ?_
 apply me_and ?d3 ?d4
 case' d3 => apply me_cmp ?d5 fm_eq ?d6 ?d7 ?_
 case d5 => exact (op_eqK (hu150 hr))
 case' d6 => apply me_CB call_lenM fm_len ?d8 ?d9 PySem.boot_len ?d10 ?_ ?_
 case d8 => exact q46
 case d9 => exact T.z_len
 case' d10 => apply ma_1 ?d11 ?_
 case' d11 => apply me_ix (ix_M (hu151 hr)) fm_ix ?d12 me_int ?_
 case d12 => exact (me_var (pvk 1 q45))
 case' d7 => apply me_CB call_lenM fm_len ?d13 ?d14 PySem.boot_len ?d15 ?_ ?_
 case d13 => exact q46
 case d14 => exact T.z_len
 case' d15 => apply ma_1 ?d16 ?_
 case' d16 => apply me_ix (ix_M (hu151 hr)) fm_ix ?d17 me_int ?_
 case d17 => exact (me_var (pvk 0 q47))
 case' d4 => apply me_one ?_
 case' d4 => apply me_cmp ?d19 fm_eq ?d20 ?d21 ?_
 case d19 => exact (op_eqK (hu150 hr))
 case' d20 => apply me_CB call_lenM fm_len ?d22 ?d23 PySem.boot_len ?d24 ?_ ?_
 case d22 => exact q46
 case d23 => exact T.z_len
 case' d24 => apply ma_1 ?d25 ?_
 case' d25 => apply me_ix (ix_M (hu151 hr)) fm_ix ?d26 me_int ?_
 case d26 => exact (me_var (pvk 1 q45))
 case' d21 => apply me_CB call_lenM fm_len ?d27 ?d28 PySem.boot_len ?d29 ?_ ?_
 case d27 => exact q46
 case d28 => exact T.z_len
 case' d29 => apply ma_1 ?d30 ?_
 case' d30 => apply me_ix (ix_M (hu151 hr)) fm_ix ?d31 me_int ?_
 case d31 => exact (me_var (pvk 0 q47))
 all_goals (try walk_at "late")
theorem ok_many_for (T : Txt K mg t) : FnOk P w K mg base CX0 1 t.f_many_for t.d_many_for ["pattern", "word"] (spM K m_many_for) := by
 refine T.F_many_for.okM (k := 0) sc_many_for rfl fun cdv A outer s H E hr => ?_
 unfold b_many_for
 conv => arg 2; whnf
 apply mss_one ?_
 apply ms_ret ?_
 apply me_CB call_lenM fm_len ?d3 ?d4 PySem.boot_len ?d5 ?_ ?_
 case d3 => exact q28
 case d4 => exact T.z_len
 case' d5 => apply ma_1 ?d6 ?_
 case' d6 => apply me_if ?d7 ?d8 ?d9
 case' d7 => apply mt_cmp ?d10 fm_eq ?d11 me_str ?_
 case d10 => exact (op_eqK (hu150 hr))
 case d11 => exact (me_var (pvk 1 q26))
 case' d8 => apply me_ix (ix_M (hu151 hr)) fm_ix ?d12 me_int ?_
 case d12 => exact (me_var (pvk 0 q27))
 case' d9 => apply me_ix (ix_M (hu151 hr)) fm_ix ?d13 me_int ?_
 case d13 => exact (me_var (pvk 0 q27))
 all_goals (try walk_at "late")
theorem ok_is_move (T : Txt K mg t) : FnOk P w K mg base CX0 3 t.f_is_move t.d_is_move ["pattern", "thing"] (spM K m_is_move) := by
 have C_is_spot_number := Cal.of (ok_is_spot_number (P := P) (w := w) (base := base) T) T.m_is_spot_number T.F_is_spot_number.kp T.b_is_spot_number
 have C_many_for := Cal.of (ok_many_for (P := P) (w := w) (base := base) T) T.m_many_for T.F_many_for.kp T.b_many_for
 refine T.F_is_move.okM (k := 2) sc_is_move rfl fun cdv A outer s H E hr => ?_
 unfold b_is_move
 conv => arg 2; whnf
 apply mss_cons ?d1 ?d2
 case' d1 => apply ms_if ?d3 ?d4 mss_nil
 case' d3 => apply PW.pt ?_
 case' d3 => apply mw_or ?d6 ?d7
 case' d6 => apply mt_not ?_
 case' d6 => apply mt_val ?d9 ?_
 case' d9 => apply me_CB call_instM fm_inst ?d10 ?d11 PyProof.Rows.boot_isinstance ?d12 ?_ ?_
 case d10 => exact q25
 case d11 => exact T.z_isinstance
 case' d12 => apply ma_2 ?d13 ?d14 ?_ ?_
 case d13 => exact (me_var (pvk 1 q18))
 case' d14 => apply me_C ?d15 ?_
 case' d15 => apply pe_bltnk (v := .ty "tuple") ?d16 ?d17 ?_ ?_
 case d16 => exact q24
 case d17 => exact T.z_tuple
 case' d7 => apply mw_or ?d18 ?d19
 case' d18 => apply mt_cmp ?d20 fm_ne ?d21 me_int ?_
 case d20 => exact (op_neK (hu151 hr))
 case' d21 => apply me_CB call_lenM fm_len ?d22 ?d23 PySem.boot_len ?d24 ?_ ?_
 case d22 => exact q23
 case d23 => exact T.z_len
 case' d24 => apply ma_1 ?d25 ?_
 case d25 => exact (me_var (pvk 1 q18))
 case' d19 => apply mw_or1 ?_
 case' d19 => apply mt_cmp ?d27 fm_notIn ?d28 ?d29 ?_
 case d27 => exact (op_notInM (hu151 hr))
 case' d28 => apply me_ix (ix_M (hu151 hr)) fm_ix ?d30 me_int ?_
 case d30 => exact (me_var (pvk 1 q18))
 case' d29 => apply me_glob ?d31 ?d32 ?d33
 case d31 => exact q22
 case d32 => exact T.c_MOVES
 case d33 => exact T.r_MOVES
 case' d4 => apply mss_one ?_
 case' d4 => apply ms_ret me_bl
 case' d2 => apply mss_one ?_
 case' d2 => apply ms_ret ?_
 case' d2 => apply me_cal ?d37 ?_ ?d38 ?d39 ?_ ?_
 case d37 => exact C_is_spot_number
 case d38 => exact q21
 case' d39 => apply ma_2 ?d40 ?d41 ?_ ?_
 case' d40 => apply me_ix (ix_M (hu151 hr)) fm_ix ?d42 me_int ?_
 case d42 => exact (me_var (pvk 1 q18))
 case' d41 => apply me_cal ?d43 ?_ ?d44 ?d45 ?_ ?_
 case d43 => exact C_many_for
 case d44 => exact q20
 case' d45 => apply ma_2 ?d46 ?d47 ?_ ?_
 case d46 => exact (me_var (pvk 0 q19))
 case' d47 => apply me_ix (ix_M (hu151 hr)) fm_ix ?d48 me_int ?_
 case d48 => exact (me_var (pvk 1 q18))
 all_goals (try walk_at "late")
theorem ok_with_one (T : Txt K mg t) : FnOk P w K mg base CX0 1 t.f_with_one t.d_with_one ["numbers", "number"] (spM K m_with_one) := by
 refine T.F_with_one.okM (k := 0) sc_with_one rfl fun cdv A outer s H E hr => ?_
 unfold b_with_one
 conv => arg 2; whnf
 apply mss_one ?_
 apply ms_ret ?_
 apply me_CTy call_tuple_of fm_tuple ?d3 ?d4 ?_ ?d5 ?_ ?_
 case d3 => exact q44
 case d4 => exact T.z_tuple
 case' d5 => apply ma_1 ?d6 ?_
 case' d6 => apply me_CB call_sortedT fm_sortedT ?d7 ?d8 PyProof.Rows.boot_sorted ?d9 ?_ ?_
 case d7 => exact q43
 case d8 => exact T.z_sorted
 case' d9 => apply ma_1 ?d10 ?_
 case' d10 => apply me_op op_addM fm_add ?d11 ?d12
 case d11 => exact (me_var (pvk 0 q41))
 case' d12 => apply me_tup ?_
 case' d12 => apply ma_1 ?d14 ?_
 case d14 => exact (me_var (pvk 1 q42))
 all_goals (try walk_at "late")
theorem ok_behind_move (T : Txt K mg t) : FnOk P w K mg base CX0 2 t.f_behind_move t.d_behind_move ["pattern", "state", "move"] (spM K m_behind_move) := by
 have C_with_one := Cal.of (ok_with_one (P := P) (w := w) (base := base) T) T.m_with_one T.F_with_one.kp T.b_with_one
 refine T.F_behind_move.okM (k := 1) sc_behind_move rfl fun cdv A outer s H E hr => ?_
 unfold b_behind_move
 conv => arg 2; whnf
 apply mss_cons ?d1 ?d2
 case' d1 => apply ms_asg ?d3 ?d4 ?_ ?_ ?_
 case d3 => exact (me_var (pvk 1 q40))
 case' d4 => apply mg_tup ?_ ?d5 ?_ ?_
 case' d5 => apply mgs_cons ?d6 ?d7 ?_
 case' d6 => apply mg_name ?_
 case' d6 => apply pg_name (i := 3) ?d9 ?_ ?d10 ?_
 case d9 => exact sc_behind_move.nd
 case d10 => exact (Or.inl q29.lk)
 case' d7 => apply mgs_cons ?d11 mgs_nil ?_
 case' d11 => apply mg_name ?_
 case' d11 => apply pg_name (i := 4) ?d13 ?_ ?d14 ?_
 case d13 => exact sc_behind_move.nd
 case d14 => exact (Or.inl q32.lk)
 case' d2 => apply mss_cons ?d15 ?d16
 case' d15 => apply ms_asg ?d17 ?d18 ?_ ?_ ?_
 case d17 => exact (me_var (pvk 2 q39))
 case' d18 => apply mg_tup ?_ ?d19 ?_ ?_
 case' d19 => apply mgs_cons ?d20 ?d21 ?_
 case' d20 => apply mg_name ?_
 case' d20 => apply pg_name (i := 5) ?d23 ?_ ?d24 ?_
 case d23 => exact sc_behind_move.nd
 case d24 => exact (Or.inl q35.lk)
 case' d21 => apply mgs_cons ?d25 mgs_nil ?_
 case' d25 => apply mg_name ?_
 case' d25 => apply pg_name (i := 6) ?d27 ?_ ?d28 ?_
 case d27 => exact sc_behind_move.nd
 case d28 => exact (Or.inl q33.lk)
 case' d16 => apply mss_cons ?d29 ?d30
 case' d29 => apply ms_if ?d31 ?d32 mss_nil
 case' d31 => apply mt_cmp ?d33 fm_eq ?d34 me_str ?_
 case d33 => exact (op_eqK (hu150 hr))
 case d34 => exact (me_var (pvk 5 q35))
 case' d32 => apply mss_one ?_
 case' d32 => apply ms_ret ?_
 case' d32 => apply me_if ?d37 me_non ?d38
 case' d37 => apply mt_cmp ?d39 fm_in ?d40 ?d41 ?_
 case d39 => exact (op_inM (hu151 hr))
 case d40 => exact (me_var (pvk 6 q33))
 case d41 => exact (me_var (pvk 3 q29))
 case' d38 => apply me_tup ?_
 case' d38 => apply ma_2 ?d43 ?d44 ?_ ?_
 case' d43 => apply me_cal ?d45 ?_ ?d46 ?d47 ?_ ?_
 case d45 => exact C_with_one
 case d46 => exact q31
 case' d47 => apply ma_2 ?d48 ?d49 ?_ ?_
 case d48 => exact (me_var (pvk 3 q29))
 case d49 => exact (me_var (pvk 6 q33))
 case d44 => exact (me_var (pvk 4 q32))
 case' d30 => apply mss_cons ?d50 ?d51
 case' d50 => apply ms_if ?d52 ?d53 mss_nil
 case' d52 => apply mt_cmp ?d54 fm_in ?d55 ?d56 ?_
 case d54 => exact (op_inM (hu151 hr))
 case d55 => exact (me_var (pvk 6 q33))
 case d56 => exact (me_var (pvk 4 q32))
 case' d53 => apply mss_one ?_
 case' d53 => apply ms_ret me_non
 case' d51 => apply mss_cons ?d58 ?d59
 case' d58 => apply ms_asg ?d60 ?d61 ?_ ?_ ?_
 case' d60 => apply me_slice sl_M fm_sl ?d62 mo_none ?d63
 case' d62 => apply me_ix (ix_M (hu151 hr)) fm_ix ?d64 ?d65 ?_
 case' d64 => apply me_ix (ix_M (hu151 hr)) fm_ix ?d66 me_int ?_
 case d66 => exact (me_var (pvk 0 q38))
 case d65 => exact (me_var (pvk 6 q33))
 case' d63 => apply mo_some me_int
 case' d61 => apply mg_tup ?_ ?d67 ?_ ?_
 case' d67 => apply mgs_cons ?d68 ?d69 ?_
 case' d68 => apply mg_name ?_
 case' d68 => apply pg_name (i := 7) ?d71 ?_ ?d72 ?_
 case d71 => exact sc_behind_move.nd
 case d72 => exact (Or.inl q36.lk)
 case' d69 => apply mgs_cons ?d73 mgs_nil ?_
 case' d73 => apply mg_name ?_
 case' d73 => apply pg_name (i := 8) ?d75 ?_ ?d76 ?_
 case d75 => exact sc_behind_move.nd
 case d76 => exact (Or.inl q37.lk)
 case' d59 => apply mss_cons ?d77 ?d78
 case' d77 => apply ms_if ?d79 ?d80 mss_nil
 case' d79 => apply mt_cmp ?d81 fm_eq ?d82 me_str ?_
 case d81 => exact (op_eqK (hu150 hr))
 case d82 => exact (me_var (pvk 5 q35))
 case' d80 => apply mss_one ?_
 case' d80 => apply ms_ret ?_
 case' d80 => apply me_if ?d85 ?d86 me_non
 case' d85 => apply PW.pt ?_
 case' d85 => apply mw_and ?d88 ?d89
 case' d88 => apply mt_cmp ?d90 fm_in ?d91 ?d92 ?_
 case d90 => exact (op_inM (hu151 hr))
 case d91 => exact (me_var (pvk 7 q36))
 case d92 => exact (me_var (pvk 3 q29))
 case' d89 => apply mw_and1 ?_
 case' d89 => apply mt_cmp ?d94 fm_in ?d95 ?d96 ?_
 case d94 => exact (op_inM (hu151 hr))
 case d95 => exact (me_var (pvk 8 q37))
 case d96 => exact (me_var (pvk 3 q29))
 case' d86 => apply me_tup ?_
 case' d86 => apply ma_2 ?d98 ?d99 ?_ ?_
 case d98 => exact (me_var (pvk 3 q29))
 case' d99 => apply me_cal ?d100 ?_ ?d101 ?d102 ?_ ?_
 case d100 => exact C_with_one
 case d101 => exact q31
 case' d102 => apply ma_2 ?d103 ?d104 ?_ ?_
 case d103 => exact (me_var (pvk 4 q32))
 case d104 => exact (me_var (pvk 6 q33))
 case' d78 => apply mss_cons ?d105 ?d106
 case' d105 => apply ms_asg ?d107 ?d108 ?_ ?_ ?_
 case' d107 => apply me_if ?d109 ?d110 ?d111
 case' d109 => apply mt_cmp ?d112 fm_eq ?d113 me_str ?_
 case d112 => exact (op_eqK (hu150 hr))
 case d113 => exact (me_var (pvk 5 q35))
 case' d110 => apply me_tup ?_
 case' d110 => apply ma_2 ?d115 ?d116 ?_ ?_
 case d115 => exact (me_var (pvk 7 q36))
 case d116 => exact (me_var (pvk 8 q37))
 case' d111 => apply me_tup ?_
 case' d111 => apply ma_2 ?d118 ?d119 ?_ ?_
 case d118 => exact (me_var (pvk 8 q37))
 case d119 => exact (me_var (pvk 7 q36))
 case' d108 => apply mg_tup ?_ ?d120 ?_ ?_
 case' d120 => apply mgs_cons ?d121 ?d122 ?_
 case' d121 => apply mg_name ?_
 case' d121 => apply pg_name (i := 9) ?d124 ?_ ?d125 ?_
 case d124 => exact sc_behind_move.nd
 case d125 => exact (Or.inl q34.lk)
 case' d122 => apply mgs_cons ?d126 mgs_nil ?_
 case' d126 => apply mg_name ?_
 case' d126 => apply pg_name (i := 10) ?d128 ?_ ?d129 ?_
 case d128 => exact sc_behind_move.nd
 case d129 => exact (Or.inl q30.lk)
 case' d106 => apply mss_cons ?d130 ?d131
 case' d130 => apply ms_if ?d132 ?d133 mss_nil
 case' d132 => apply PW.pt ?_
 case' d132 => apply mw_or ?d135 ?d136
 case' d135 => apply mt_cmp ?d137 fm_notIn ?d138 ?d139 ?_
 case d137 => exact (op_notInM (hu151 hr))
 case d138 => exact (me_var (pvk 9 q34))
 case d139 => exact (me_var (pvk 3 q29))
 case' d136 => apply mw_or1 ?_
 case' d136 => apply mt_cmp ?d141 fm_in ?d142 ?d143 ?_
 case d141 => exact (op_inM (hu151 hr))
 case d142 => exact (me_var (pvk 10 q30))
 case d143 => exact (me_var (pvk 3 q29))
 case' d133 => apply mss_one ?_
 case' d133 => apply ms_ret me_non
 case' d131 => apply mss_one ?_
 case' d131 => apply ms_ret ?_
 case' d131 => apply me_tup ?_
 case' d131 => apply ma_2 ?d148 ?d149 ?_ ?_
 case' d148 => apply me_cal ?d150 ?_ ?d151 ?d152 ?_ ?_
 case d150 => exact C_with_one
 case d151 => exact q31
 case' d152 => apply ma_2 ?d153 ?d154 ?_ ?_
 case d153 => exact (me_var (pvk 3 q29))
 case d154 => exact (me_var (pvk 10 q30))
 case' d149 => apply me_cal ?d155 ?_ ?d156 ?d157 ?_ ?_
 case d155 => exact C_with_one
 case d156 => exact q31
 case' d157 => apply ma_2 ?d158 ?d159 ?_ ?_
 case d158 => exact (me_var (pvk 4 q32))
 case d159 => exact (me_var (pvk 6 q33))
 all_goals (try walk_at "late")
theorem ok_is_plan (T : Txt K mg t) : FnOk P w K mg base CX0 4 t.f_is_plan t.d_is_plan ["pattern", "thing"] (spM K m_is_plan) := by
 have C_is_whole := Cal.of (ok_is_whole (P := P) (w := w) (base := base) T) T.m_is_whole T.F_is_whole.kp T.b_is_whole
 have C_is_move := Cal.of (ok_is_move (P := P) (w := w) (base := base) T) T.m_is_move T.F_is_move.kp T.b_is_move
 have C_behind_move := Cal.of (ok_behind_move (P := P) (w := w) (base := base) T) T.m_behind_move T.F_behind_move.kp T.b_behind_move
 refine T.F_is_plan.okM (k := 3) sc_is_plan rfl fun cdv A outer s H E hr => ?_
 unfold b_is_plan
 conv => arg 2; whnf
 apply mss_cons ?d1 ?d2
 case' d1 => apply ms_if ?d3 ?d4 mss_nil
 case' d3 => apply mt_not ?_
 case' d3 => apply mt_val ?d6 ?_
 case' d6 => apply me_CB call_instM fm_inst ?d7 ?d8 PyProof.Rows.boot_isinstance ?d9 ?_ ?_
 case d7 => exact q17
 case d8 => exact T.z_isinstance
 case' d9 => apply ma_2 ?d10 ?d11 ?_ ?_
 case d10 => exact (me_var (pvk 1 q10))
 case' d11 => apply me_tup ?_
 case' d11 => apply ma_2 ?d13 ?d14 ?_ ?_
 case' d13 => apply me_C ?d15 ?_
 case' d15 => apply pe_bltnk (v := .ty "list") ?d16 ?d17 ?_ ?_
 case d16 => exact q15
 case d17 => exact T.z_list
 case' d14 => apply me_C ?d18 ?_
 case' d18 => apply pe_bltnk (v := .ty "tuple") ?d19 ?d20 ?_ ?_
 case d19 => exact q16
 case d20 => exact T.z_tuple
 case' d4 => apply mss_one ?_
 case' d4 => apply ms_ret me_bl
 case' d2 => apply mss_cons ?d22 ?d23
 case' d22 => apply ms_set (i := 2) ?d24 ?_ ?d25 ?d26 ?_ ?_
 case d24 => exact sc_is_plan.nd
 case d25 => exact (Or.inl q8.lk)
 case' d26 => apply me_glob ?d27 ?d28 ?d29
 case d27 => exact q14
 case d28 => exact T.c_START
 case d29 => exact T.r_START
 case' d23 => apply mss_cons ?d30 ?d31
 case' d30 => apply ms_for ?_ ?_ ?d32 ?d33 ?d34 ?_
 case' d32 => apply mi_any ?_
 case d32 => exact (me_var (pvk 1 q10))
 case' d33 => apply mg_name ?_
 case' d33 => apply pg_name (i := 3) ?d37 ?_ ?d38 ?_
 case d37 => exact sc_is_plan.nd
 case d38 => exact (Or.inl q11.lk)
 case' d34 => apply mss_cons ?d39 ?d40
 case' d39 => apply ms_set (i := 2) ?d41 ?_ ?d42 ?d43 ?_ ?_
 case d41 => exact sc_is_plan.nd
 case d42 => exact (Or.inl q8.lk)
 case' d43 => apply me_if ?d44 ?d45 me_non
 case' d44 => apply mt_val ?d46 ?_
 case' d46 => apply me_cal ?d47 ?_ ?d48 ?d49 ?_ ?_
 case d47 => exact C_is_move
 case d48 => exact q12
 case' d49 => apply ma_2 ?d50 ?d51 ?_ ?_
 case d50 => exact (me_var (pvk 0 q7))
 case d51 => exact (me_var (pvk 3 q11))
 case' d45 => apply me_cal ?d52 ?_ ?d53 ?d54 ?_ ?_
 case d52 => exact C_behind_move
 case d53 => exact q13
 case' d54 => apply ma_3 ?d55 ?d56 ?d57 ?_ ?_ ?_
 case d55 => exact (me_var (pvk 0 q7))
 case d56 => exact (me_var (pvk 2 q8))
 case d57 => exact (me_var (pvk 3 q11))
 case' d40 => apply mss_one ?_
 case' d40 => apply ms_if ?d59 ?d60 mss_nil
 case' d59 => apply mt_cmp op_isA fm_is ?d61 me_non ?_
 case d61 => exact (me_var (pvk 2 q8))
 case' d60 => apply mss_one ?_
 case' d60 => apply ms_ret me_bl
 case' d31 => apply mss_one ?_
 case' d31 => apply ms_ret ?_
 case' d31 => apply me_cal ?d65 ?_ ?d66 ?d67 ?_ ?_
 case d65 => exact C_is_whole
 case d66 => exact q9
 case' d67 => apply ma_2 ?d68 ?d69 ?_ ?_
 case d68 => exact (me_var (pvk 0 q7))
 case d69 => exact (me_var (pvk 2 q8))
 all_goals (try walk_at "late")
theorem ok__law_box (T : Txt K mg t) : FnOk P w K mg base CX0 1 t.f__law_box t.d__law_box ["_law_script", "_law_k"] (spM K m__law_box) := by
 refine T.F__law_box.okM (k := 0) sc__law_box rfl fun cdv A outer s H E hr => ?_
 unfold b__law_box
 conv => arg 2; whnf
 apply mss_cons ?d1 ?d2
 case' d1 => apply ms_set (i := 2) ?d3 ?_ ?d4 me_int ?_ ?_
 case d3 => exact sc__law_box.nd
 case d4 => exact (Or.inl q48.lk)
 case' d2 => apply mss_cons ?d5 ?d6
 case' d5 => apply ms_if ?d7 ?d8 mss_nil
 case' d7 => apply mt_cmp op_ltA fm_lt ?d9 ?d10 ?_
 case d9 => exact (me_var (pvk 1 q51))
 case' d10 => apply me_CB call_lenM fm_len ?d11 ?d12 PySem.boot_len ?d13 ?_ ?_
 case d11 => exact q53
 case d12 => exact T.z_len
 case' d13 => apply ma_1 ?d14 ?_
 case d14 => exact (me_var (pvk 0 q52))
 case' d8 => apply mss_one ?_
 case' d8 => apply ms_set (i := 2) ?d16 ?_ ?d17 ?d18 ?_ ?_
 case d16 => exact sc__law_box.nd
 case d17 => exact (Or.inl q48.lk)
 case' d18 => apply me_ix (ix_M (hu151 hr)) fm_ix ?d19 ?d20 ?_
 case d19 => exact (me_var (pvk 0 q52))
 case d20 => exact (me_var (pvk 1 q51))
 case' d6 => apply mss_one ?_
 case' d6 => apply ms_ret ?_
 case' d6 => apply me_lstH ?_
 case' d6 => apply ma_3 ?d24 ?d25 ?d26 ?_ ?_ ?_
 case' d24 => apply me_op op_mulM fm_mul ?d27 ?d28
 case' d27 => apply me_CB call_abs fm_abs ?d29 ?d30 PyProof.Rows.Boot.abs ?d31 ?_ ?_
 case d29 => exact q49
 case d30 => exact T.z_abs
 case' d31 => apply ma_1 ?d32 ?_
 case d32 => exact (me_var (pvk 2 q48))
 case' d28 => apply me_CTy call_int1 fm_int ?d33 ?d34 ?_ ?d35 ?_ ?_
 case d33 => exact q50
 case d34 => exact T.z_int
 case' d35 => apply ma_1 ?d36 ?_
 case' d36 => apply me_cmp op_geA fm_ge ?d37 ?d38 ?_
 case' d37 => apply me_CB call_abs fm_abs ?d39 ?d40 PyProof.Rows.Boot.abs ?d41 ?_ ?_
 case d39 => exact q49
 case d40 => exact T.z_abs
 case' d41 => apply ma_1 ?d42 ?_
 case d42 => exact (me_var (pvk 2 q48))
 case' d38 => apply me_op op_pow fm_pow me_int me_int
 case' d25 => apply me_op op_mod fm_mod ?_ me_int
 case d25 => exact (me_var (pvk 2 q48))
 case' d26 => apply me_op op_mulM fm_mul me_int ?_
 case d26 => exact (me_var (pvk 1 q51))
 all_goals (try walk_at "late")
theorem ok__law_take (T : Txt K mg t) : FnOk P w K mg base CX0 1 t.f__law_take t.d__law_take ["_law_box_here", "_law_many"] (spM K m__law_take) := by
 refine T.F__law_take.okM (k := 0) sc__law_take rfl fun cdv A outer s H E hr => ?_
 unfold b__law_take
 conv => arg 2; whnf
 apply mss_cons ?d1 ?d2
 case' d1 => apply ms_if ?d3 ?d4 mss_nil
 case' d3 => apply mt_cmp op_gtA fm_gt ?d5 me_int ?_
 case' d5 => apply me_ix (ix_M (hu151 hr)) fm_ix ?d6 me_int ?_
 case d6 => exact (me_var (pvk 0 q56))
 case' d4 => apply mss_cons ?d7 ?d8
 case' d7 => apply ms_set (i := 2) ?d9 ?_ ?d10 ?d11 ?_ ?_
 case d9 => exact sc__law_take.nd
 case d10 => exact (Or.inl q57.lk)
 case' d11 => apply me_op op_mod fm_mod ?d12 ?d13
 case' d12 => apply me_ix (ix_M (hu151 hr)) fm_ix ?d14 me_int ?_
 case d14 => exact (me_var (pvk 0 q56))
 case d13 => exact (me_var (pvk 1 q55))
 case' d8 => apply mss_cons ?d15 ?d16
 case' d15 => apply ms_asg ?d17 ?d18 ?_ ?_ ?_
 case' d17 => apply me_op op_fdiv fm_div ?d19 ?d20
 case' d19 => apply me_ix (ix_M (hu151 hr)) fm_ix ?d21 me_int ?_
 case d21 => exact (me_var (pvk 0 q56))
 case d20 => exact (me_var (pvk 1 q55))
 case' d18 => apply mg_sub ?d22 me_int ?_
 case d22 => exact (me_var (pvk 0 q56))
 case' d16 => apply mss_one ?_
 case' d16 => apply ms_ret ?_
 case d16 => exact (me_var (pvk 2 q57))
 case' d2 => apply mss_cons ?d25 ?d26
 case' d25 => apply ms_asg ?d27 ?d28 ?_ ?_ ?_
 case' d27 => apply me_op op_addM fm_add ?_ me_int
 case' d27 => apply me_ix (ix_M (hu151 hr)) fm_ix ?d30 me_int ?_
 case d30 => exact (me_var (pvk 0 q56))
 case' d28 => apply mg_sub ?d31 me_int ?_
 case d31 => exact (me_var (pvk 0 q56))
 case' d26 => apply mss_cons ?d32 ?d33
 case' d32 => apply ms_set (i := 3) ?d34 ?_ ?d35 ?d36 ?_ ?_
 case d34 => exact sc__law_take.nd
 case d35 => exact (Or.inl q54.lk)
 case' d36 => apply me_op op_mod fm_mod ?_ me_int
 case' d36 => apply me_op op_mulM fm_mul ?d38 ?d39
 case' d38 => apply me_op op_addM fm_add ?_ me_int
 case' d38 => apply me_ix (ix_M (hu151 hr)) fm_ix ?d41 me_int ?_
 case d41 => exact (me_var (pvk 0 q56))
 case' d39 => apply me_op op_addM fm_add me_int ?_
 case' d39 => apply me_op op_mulM fm_mul ?d43 ?d44
 case' d43 => apply me_ix (ix_M (hu151 hr)) fm_ix ?d45 me_int ?_
 case d45 => exact (me_var (pvk 0 q56))
 case' d44 => apply me_ix (ix_M (hu151 hr)) fm_ix ?d46 me_int ?_
 case d46 => exact (me_var (pvk 0 q56))
 case' d33 => apply mss_cons ?d47 ?d48
 case' d47 => apply ms_set (i := 3) ?d49 ?_ ?d50 ?d51 ?_ ?_
 case d49 => exact sc__law_take.nd
 case d50 => exact (Or.inl q54.lk)
 case' d51 => apply me_op op_mod fm_mod ?_ me_int
 case' d51 => apply me_op op_mulM fm_mul ?d53 ?d54
 case d53 => exact (me_var (pvk 3 q54))
 case' d54 => apply me_op op_addM fm_add ?_ me_int
 case' d54 => apply me_op op_addM fm_add ?d56 ?d57
 case' d56 => apply me_op op_mod fm_mod ?_ me_int
 case d56 => exact (me_var (pvk 3 q54))
 case' d57 => apply me_op op_mulM fm_mul ?_ me_int
 case' d57 => apply me_ix (ix_M (hu151 hr)) fm_ix ?d60 me_int ?_
 case d60 => exact (me_var (pvk 0 q56))
 case' d48 => apply mss_one ?_
 case' d48 => apply ms_ret ?_
 case' d48 => apply me_op op_mod fm_mod ?d63 ?d64
 case' d63 => apply me_op op_addM fm_add ?d65 ?d66
 case' d65 => apply me_op op_fdiv fm_div ?_ me_int
 case' d65 => apply me_op op_mulM fm_mul ?d68 ?d69
 case d68 => exact (me_var (pvk 3 q54))
 case d69 => exact (me_var (pvk 3 q54))
 case' d66 => apply me_op op_fdiv fm_div ?_ me_int
 case d66 => exact (me_var (pvk 3 q54))
 case d64 => exact (me_var (pvk 1 q55))
 all_goals (try walk_at "late")
theorem ok__law_pattern (T : Txt K mg t) : FnOk P w K mg base CX0 2 t.f__law_pattern t.d__law_pattern ["_law_box_here"] (spM K m__law_pattern) := by
 have C__law_take := Cal.of (ok__law_take (P := P) (w := w) (base := base) T) T.m__law_take T.F__law_take.kp T.b__law_take
 have z : FnOk P w K mg base CX0 2 t.f__law_pattern t.d__law_pattern ["_law_box_here"] (spM K (mFun 1 5 b__law_pattern)) := by
  refine T.F__law_pattern.okM (k := 1) sc__law_pattern rfl fun cdv A outer s H E hr => ?_
  unfold b__law_pattern
  conv => arg 2; whnf
  apply mss_cons ?d1 ?d2
  case' d1 => apply ms_set (i := 1) ?d3 ?_ ?d4 ?d5 ?_ ?_
  case d3 => exact sc__law_pattern.nd
  case d4 => exact (Or.inl q65.lk)
  case' d5 => apply me_op op_addM fm_add me_int ?_
  case' d5 => apply me_cal ?d7 ?_ ?d8 ?d9 ?_ ?_
  case d7 => exact C__law_take
  case d8 => exact q62
  case' d9 => apply ma_2 ?d10 me_int ?_ ?_
  case d10 => exact (me_var (pvk 0 q61))
  case' d2 => apply mss_cons ?d11 ?d12
  case' d11 => apply ms_if ?d13 ?d14 mss_nil
  case' d13 => apply mt_cmp ?d15 fm_eq ?d16 me_int ?_
  case d15 => exact (op_eqK (hu150 hr))
  case' d16 => apply me_cal ?d17 ?_ ?d18 ?d19 ?_ ?_
  case d17 => exact C__law_take
  case d18 => exact q62
  case' d19 => apply ma_2 ?d20 me_int ?_ ?_
  case d20 => exact (me_var (pvk 0 q61))
  case' d14 => apply mss_one ?_
  case' d14 => apply ms_set (i := 1) ?d22 ?_ ?d23 me_int ?_ ?_
  case d22 => exact sc__law_pattern.nd
  case d23 => exact (Or.inl q65.lk)
  case' d12 => apply mss_cons ?d24 ?d25
  case' d24 => apply ms_set (i := 2) ?d26 ?_ ?d27 ?d28 ?_ ?_
  case d26 => exact sc__law_pattern.nd
  case d27 => exact (Or.inl q58.lk)
  case' d28 => apply me_op op_mulT fm_mulT ?d29 ?d30
  case' d29 => apply me_tup ?_
  case' d29 => apply ma_1 ?d32 ?_
  case' d32 => apply me_tup ?_
  case' d32 => apply ma_2 me_non ?d34 ?_ ?_
  case' d34 => apply me_tup ?_
  case' d34 => apply ma_1 me_str ?_
  case d30 => exact (me_var (pvk 1 q65))
  case' d25 => apply mss_cons ?d36 ?d37
  case' d36 => apply ms_set (i := 3) ?d38 ?_ ?d39 ?d40 ?_ ?_
  case d38 => exact sc__law_pattern.nd
  case d39 => exact (Or.inl q59.lk)
  case' d40 => apply me_lstH ma_nil
  case' d37 => apply mss_cons ?d41 ?d42
  case' d41 => apply ms_for ?_ ?_ ?d43 ?d44 ?d45 ?_
  case' d43 => apply mi_range1 ?d46 ?d47 ?d48 ?_
  case d46 => exact q63.lk
  case d47 => exact T.z_range
  case' d48 => apply ma_1 ?d49 ?_
  case' d49 => apply me_cal ?d50 ?_ ?d51 ?d52 ?_ ?_
  case d50 => exact C__law_take
  case d51 => exact q62
  case' d52 => apply ma_2 ?d53 me_int ?_ ?_
  case d53 => exact (me_var (pvk 0 q61))
  case' d44 => apply mg_name ?_
  case' d44 => apply pg_name (i := 4) ?d55 ?_ ?d56 ?_
  case d55 => exact sc__law_pattern.nd
  case d56 => exact (Or.inl q64.lk)
  case' d45 => apply mss_cons ?d57 ?d58
  case' d57 => apply ms_set (i := 5) ?d59 ?_ ?d60 ?d61 ?_ ?_
  case d59 => exact sc__law_pattern.nd
  case d60 => exact (Or.inl q66.lk)
  case' d61 => apply me_tup ?_
  case' d61 => apply ma_3 me_str ?d63 me_str ?_ ?_ ?_
  case' d63 => apply me_ix (ix_M (hu151 hr)) fm_ix ?d64 ?d65 ?_
  case' d64 => apply me_lst ?_
  case' d64 => apply ma_2 me_str me_non ?_ ?_
  case' d65 => apply me_cal ?d67 ?_ ?d68 ?d69 ?_ ?_
  case d67 => exact C__law_take
  case d68 => exact q62
  case' d69 => apply ma_2 ?d70 me_int ?_ ?_
  case d70 => exact (me_var (pvk 0 q61))
  case' d58 => apply mss_one ?_
  case' d58 => apply ms_expr ?d72 ?_
  case' d72 => apply me_bm PySem.F.plainAttrs_list PySem.F.slot_list_append PySem.F.type_list_append ?d73 ?d74 fm_append ?d75 ?d76 ?_ ?_ ?_ ?_ ?_
  case d73 => exact mt_append
  case d74 => exact (fun _ _ _ _ _ => isL_ty)
  case d75 => exact (me_var (pvk 3 q59))
  case' d76 => apply ma_1 ?d77 ?_
  case' d77 => apply me_tup ?_
  case' d77 => apply ma_4 ?d79 ?d80 ?d81 ?d82 ?_ ?_ ?_ ?_
  case' d79 => apply me_cal ?d83 ?_ ?d84 ?d85 ?_ ?_
  case d83 => exact C__law_take
  case d84 => exact q62
  case' d85 => apply ma_2 ?d86 ?d87 ?_ ?_
  case d86 => exact (me_var (pvk 0 q61))
  case d87 => exact (me_var (pvk 1 q65))
  case' d80 => apply me_cal ?d88 ?_ ?d89 ?d90 ?_ ?_
  case d88 => exact C__law_take
  case d89 => exact q62
  case' d90 => apply ma_2 ?d91 ?d92 ?_ ?_
  case d91 => exact (me_var (pvk 0 q61))
  case d92 => exact (me_var (pvk 1 q65))
  case' d81 => apply me_ix (ix_M (hu151 hr)) fm_ix ?d93 ?d94 ?_
  case' d93 => apply me_lst ?_
  case' d93 => apply ma_2 me_str me_str ?_ ?_
  case' d94 => apply me_cal ?d96 ?_ ?d97 ?d98 ?_ ?_
  case d96 => exact C__law_take
  case d97 => exact q62
  case' d98 => apply ma_2 ?d99 me_int ?_ ?_
  case d99 => exact (me_var (pvk 0 q61))
  case d82 => exact (me_var (pvk 5 q66))
  case' d42 => apply mss_one ?_
  case' d42 => apply ms_ret ?_
  case' d42 => apply me_tup ?_
  case' d42 => apply ma_3 ?d103 ?d104 ?d105 ?_ ?_ ?_
  case d103 => exact (me_var (pvk 2 q58))
  case' d104 => apply me_CTy call_tuple_of fm_tuple ?d106 ?d107 ?_ ?d108 ?_ ?_
  case d106 => exact q60
  case d107 => exact T.z_tuple
  case' d108 => apply ma_1 ?d109 ?_
  case d109 => exact (me_var (pvk 3 q59))
  case' d105 => apply me_tup ma_nil
  all_goals (try walk_at "late")
 exact z.imp fun _ _ _ _ q => spM_seal q
theorem ok__law_moves (T : Txt K mg t) : FnOk P w K mg base CX0 1 t.f__law_moves t.d__law_moves ["_law_pattern_here", "_law_spots", "_law_bows"] (spM K m__law_moves) := by
 have z : FnOk P w K mg base CX0 1 t.f__law_moves t.d__law_moves ["_law_pattern_here", "_law_spots", "_law_bows"] (spM K (mFun 3 5 b__law_moves)) := by
  refine T.F__law_moves.okM (k := 0) sc__law_moves rfl fun cdv A outer s H E hr => ?_
  unfold b__law_moves
  conv => arg 2; whnf
  apply mss_cons ?d1 ?d2
  case' d1 => apply ms_set (i := 3) ?d3 ?_ ?d4 ?d5 ?_ ?_
  case d3 => exact sc__law_moves.nd
  case d4 => exact (Or.inl q67.lk)
  case' d5 => apply me_lstH ma_nil
  case' d2 => apply mss_cons ?d6 ?d7
  case' d6 => apply ms_for ?_ ?_ ?d8 ?d9 ?d10 ?_
  case' d8 => apply mi_tup ?_
  case' d8 => apply me_tup ?_
  case' d8 => apply ma_2 ?d13 ?d14 ?_ ?_
  case' d13 => apply me_tup ?_
  case' d13 => apply ma_2 me_str ?d16 ?_ ?_
  case' d16 => apply me_tup ?_
  case' d16 => apply ma_2 me_int me_int ?_ ?_
  case' d14 => apply me_tup ?_
  case' d14 => apply ma_2 me_str ?d19 ?_ ?_
  case' d19 => apply me_tup ?_
  case' d19 => apply ma_2 me_int me_int ?_ ?_
  case' d9 => apply mg_tup ?_ ?d21 ?_ ?_
  case' d21 => apply mgs_cons ?d22 ?d23 ?_
  case' d22 => apply mg_name ?_
  case' d22 => apply pg_name (i := 4) ?d25 ?_ ?d26 ?_
  case d25 => exact sc__law_moves.nd
  case d26 => exact (Or.inl q77.lk)
  case' d23 => apply mgs_cons ?d27 mgs_nil ?_
  case' d27 => apply mg_name ?_
  case' d27 => apply pg_name (i := 5) ?d29 ?_ ?d30 ?_
  case d29 => exact sc__law_moves.nd
  case d30 => exact (Or.inl q76.lk)
  case' d10 => apply mss_one ?_
  case' d10 => apply ms_for ?_ ?_ ?d32 ?d33 ?d34 ?_
  case' d32 => apply mi_enumerate ?d35 ?d36 ?d37 ?_ ?_
  case d35 => exact q69
  case d36 => exact T.z_enumerate
  case' d37 => apply ma_1 ?d38 ?_
  case' d38 => apply me_ix (ix_M (hu151 hr)) fm_ix ?d39 me_int ?_
  case d39 => exact (me_var (pvk 0 q68))
  case' d33 => apply mg_tup ?_ ?d40 ?_ ?_
  case' d40 => apply mgs_cons ?d41 ?d42 ?_
  case' d41 => apply mg_name ?_
  case' d41 => apply pg_name (i := 6) ?d44 ?_ ?d45 ?_
  case d44 => exact sc__law_moves.nd
  case d45 => exact (Or.inl q71.lk)
  case' d42 => apply mgs_cons ?d46 mgs_nil ?_
  case' d46 => apply mg_name ?_
  case' d46 => apply pg_name (i := 7) ?d48 ?_ ?d49 ?_
  case d48 => exact sc__law_moves.nd
  case d49 => exact (Or.inl q70.lk)
  case' d34 => apply mss_one ?_
  case' d34 => apply ms_if ?d51 ?d52 mss_nil
  case' d51 => apply PW.pt ?_
  case' d51 => apply mw_and ?d54 ?d55
  case' d54 => apply mt_cmp ?d56 fm_notIn ?d57 ?d58 ?_
  case d56 => exact (op_notInM (hu151 hr))
  case d57 => exact (me_var (pvk 6 q71))
  case d58 => exact (me_var (pvk 2 q73))
  case' d55 => apply mw_and1 ?_
  case' d55 => apply mt_cmp ?d60 fm_eq ?d61 ?d62 ?_
  case d60 => exact (op_eqK (hu150 hr))
  case' d61 => apply me_tup ?_
  case' d61 => apply ma_2 ?d64 ?d65 ?_ ?_
  case' d64 => apply me_CTy call_int1 fm_int ?d66 ?d67 ?_ ?d68 ?_ ?_
  case d66 => exact q78
  case d67 => exact T.z_int
  case' d68 => apply ma_1 ?d69 ?_
  case' d69 => apply me_cmp ?d70 fm_in ?d71 ?d72 ?_
  case d70 => exact (op_inM (hu151 hr))
  case' d71 => apply me_ix (ix_M (hu151 hr)) fm_ix ?d73 me_int ?_
  case d73 => exact (me_var (pvk 7 q70))
  case d72 => exact (me_var (pvk 1 q72))
  case' d65 => apply me_CTy call_int1 fm_int ?d74 ?d75 ?_ ?d76 ?_ ?_
  case d74 => exact q78
  case d75 => exact T.z_int
  case' d76 => apply ma_1 ?d77 ?_
  case' d77 => apply me_cmp ?d78 fm_in ?d79 ?d80 ?_
  case d78 => exact (op_inM (hu151 hr))
  case' d79 => apply me_ix (ix_M (hu151 hr)) fm_ix ?d81 me_int ?_
  case d81 => exact (me_var (pvk 7 q70))
  case d80 => exact (me_var (pvk 1 q72))
  case d62 => exact (me_var (pvk 5 q76))
  case' d52 => apply mss_one ?_
  case' d52 => apply ms_expr ?d83 ?_
  case' d83 => apply me_bm PySem.F.plainAttrs_list PySem.F.slot_list_append PySem.F.type_list_append ?d84 ?d85 fm_append ?d86 ?d87 ?_ ?_ ?_ ?_ ?_
  case d84 => exact mt_append
  case d85 => exact (fun _ _ _ _ _ => isL_ty)
  case d86 => exact (me_var (pvk 3 q67))
  case' d87 => apply ma_1 ?d88 ?_
  case' d88 => apply me_tup ?_
  case' d88 => apply ma_2 ?d90 ?d91 ?_ ?_
  case d90 => exact (me_var (pvk 4 q77))
  case d91 => exact (me_var (pvk 6 q71))
  case' d7 => apply mss_cons ?d92 ?d93
  case' d92 => apply ms_expr ?d94 ?_
  case' d94 => apply me_bm PySem.F.plainAttrs_list PySem.F.slot_list_extend PySem.F.type_list_extend ?d95 ?d96 fm_extend ?d97 ?d98 ?_ ?_ ?_ ?_ ?_
  case d95 => exact mt_extend
  case d96 => exact (fun _ _ _ _ _ => isL_ty)
  case d97 => exact (me_var (pvk 3 q67))
  case' d98 => apply ma_1 ?d99 ?_
  case' d99 => apply me_comp (N' := ["_law_i", "_law_spots"]) (ix := [none, some 1]) ?d100 ?_ ?d101 ?d102 ?d103 ?d104 ?d105 ?_
  case d100 => exact ⟨rfl, by decide +kernel, by decide +kernel, comp_free _ _ rfl, rfl, comp_ix _ _ _ _ rfl⟩
  case' d101 => apply cg_name ?_
  case' d102 => apply mi_range1 ?d106 ?d107 ?d108 ?_
  case d106 => exact q75.lk
  case d107 => exact T.z_range
  case' d108 => apply ma_1 ?d109 ?_
  case' d109 => apply me_CB call_lenM fm_len ?d110 ?d111 PySem.boot_len ?d112 ?_ ?_
  case d110 => exact q74
  case d111 => exact T.z_len
  case' d112 => apply ma_1 ?d113 ?_
  case' d113 => apply me_ix (ix_M (hu151 hr)) fm_ix ?d114 me_int ?_
  case d114 => exact (me_var (pvk 0 q68))
  case d103 => (intro _ _ _ _; exact (pgo (i := 0) (by walk_at "n") (show List.Nodup (["_law_i", "_law_spots"] : List Str) from by decide +kernel) (by rfl)))
  case' d104 => (intro _ _ _ _; apply mts_one ?_)
  case' d104 => apply mt_cmp ?d116 fm_notIn ?d117 ?d118 ?_
  case d116 => exact (op_notInM (hu151 hr))
  case d117 => exact (me_var (pvk 0 (NmOk.own (by walk_at "n"))))
  case d118 => exact (me_var (pvf 1 (by walk_at "n")))
  case' d105 => (intro _ _ _ _; apply me_tup ?_)
  case' d105 => apply ma_2 me_str ?d120 ?_ ?_
  case d120 => exact (me_var (pvk 0 (NmOk.own (by walk_at "n"))))
  case' d93 => apply mss_cons ?d121 ?d122
  case' d121 => apply ms_for ?_ ?_ ?d123 ?d124 ?d125 ?_
  case' d123 => apply mi_enumerate ?d126 ?d127 ?d128 ?_ ?_
  case d126 => exact q69
  case d127 => exact T.z_enumerate
  case' d128 => apply ma_1 ?d129 ?_
  case' d129 => apply me_ix (ix_M (hu151 hr)) fm_ix ?d130 me_int ?_
  case d130 => exact (me_var (pvk 0 q68))
  case' d124 => apply mg_tup ?_ ?d131 ?_ ?_
  case' d131 => apply mgs_cons ?d132 ?d133 ?_
  case' d132 => apply mg_name ?_
  case' d132 => apply pg_name (i := 6) ?d135 ?_ ?d136 ?_
  case d135 => exact sc__law_moves.nd
  case d136 => exact (Or.inl q71.lk)
  case' d133 => apply mgs_cons ?d137 mgs_nil ?_
  case' d137 => apply mg_name ?_
  case' d137 => apply pg_name (i := 7) ?d139 ?_ ?d140 ?_
  case d139 => exact sc__law_moves.nd
  case d140 => exact (Or.inl q70.lk)
  case' d125 => apply mss_one ?_
  case' d125 => apply ms_if ?d142 ?d143 mss_nil
  case' d142 => apply PW.pt ?_
  case' d142 => apply mw_and ?d145 ?d146
  case' d145 => apply mt_cmp ?d147 fm_notIn ?d148 ?d149 ?_
  case d147 => exact (op_notInM (hu151 hr))
  case d148 => exact (me_var (pvk 6 q71))
  case d149 => exact (me_var (pvk 2 q73))
  case' d146 => apply mw_and ?d150 ?d151
  case' d150 => apply mt_cmp ?d152 fm_in ?d153 ?d154 ?_
  case d152 => exact (op_inM (hu151 hr))
  case' d153 => apply me_ix (ix_M (hu151 hr)) fm_ix ?d155 me_int ?_
  case d155 => exact (me_var (pvk 7 q70))
  case d154 => exact (me_var (pvk 1 q72))
  case' d151 => apply mw_and1 ?_
  case' d151 => apply mt_cmp ?d157 fm_in ?d158 ?d159 ?_
  case d157 => exact (op_inM (hu151 hr))
  case' d158 => apply me_ix (ix_M (hu151 hr)) fm_ix ?d160 me_int ?_
  case d160 => exact (me_var (pvk 7 q70))
  case d159 => exact (me_var (pvk 1 q72))
  case' d143 => apply mss_one ?_
  case' d143 => apply ms_expr ?d162 ?_
  case' d162 => apply me_bm PySem.F.plainAttrs_list PySem.F.slot_list_append PySem.F.type_list_append ?d163 ?d164 fm_append ?d165 ?d166 ?_ ?_ ?_ ?_ ?_
  case d163 => exact mt_append
  case d164 => exact (fun _ _ _ _ _ => isL_ty)
  case d165 => exact (me_var (pvk 3 q67))
  case' d166 => apply ma_1 ?d167 ?_
  case' d167 => apply me_tup ?_
  case' d167 => apply ma_2 me_str ?d169 ?_ ?_
  case d169 => exact (me_var (pvk 6 q71))
  case' d122 => apply mss_one ?_
  case' d122 => apply ms_ret ?_
  case d122 => exact (me_var (pvk 3 q67))
  all_goals (try walk_at "late")
 exact z.imp fun _ _ _ _ q => spM_seal q
theorem ok__law_behind (T : Txt K mg t) : FnOk P w K mg base CX0 1 t.f__law_behind t.d__law_behind ["_law_pattern_here", "_law_spots", "_law_bows", "_law_move"] (spM K m__law_behind) := by
 refine T.F__law_behind.okM (k := 0) sc__law_behind rfl fun cdv A outer s H E hr => ?_
 unfold b__law_behind
 conv => arg 2; whnf
 apply mss_cons ?d1 ?d2
 case' d1 => apply ms_asg ?d3 ?d4 ?_ ?_ ?_
 case d3 => exact (me_var (pvk 3 q84))
 case' d4 => apply mg_tup ?_ ?d5 ?_ ?_
 case' d5 => apply mgs_cons ?d6 ?d7 ?_
 case' d6 => apply mg_name ?_
 case' d6 => apply pg_name (i := 4) ?d9 ?_ ?d10 ?_
 case d9 => exact sc__law_behind.nd
 case d10 => exact (Or.inl q82.lk)
 case' d7 => apply mgs_cons ?d11 mgs_nil ?_
 case' d11 => apply mg_name ?_
 case' d11 => apply pg_name (i := 5) ?d13 ?_ ?d14 ?_
 case d13 => exact sc__law_behind.nd
 case d14 => exact (Or.inl q81.lk)
 case' d2 => apply mss_cons ?d15 ?d16
 case' d15 => apply ms_if ?d17 ?d18 mss_nil
 case' d17 => apply mt_cmp ?d19 fm_eq ?d20 me_str ?_
 case d19 => exact (op_eqK (hu150 hr))
 case d20 => exact (me_var (pvk 4 q82))
 case' d18 => apply mss_one ?_
 case' d18 => apply ms_ret ?_
 case' d18 => apply me_tup ?_
 case' d18 => apply ma_2 ?d24 ?d25 ?_ ?_
 case' d24 => apply me_op op_addM fm_add ?d26 ?d27
 case d26 => exact (me_var (pvk 1 q79))
 case' d27 => apply me_lst ?_
 case' d27 => apply ma_1 ?d29 ?_
 case d29 => exact (me_var (pvk 5 q81))
 case d25 => exact (me_var (pvk 2 q80))
 case' d16 => apply mss_cons ?d30 ?d31
 case' d30 => apply ms_if ?d32 ?d33 mss_nil
 case' d32 => apply mt_cmp ?d34 fm_eq ?d35 me_str ?_
 case d34 => exact (op_eqK (hu150 hr))
 case d35 => exact (me_var (pvk 4 q82))
 case' d33 => apply mss_one ?_
 case' d33 => apply ms_set (i := 1) ?d37 ?_ ?d38 ?d39 ?_ ?_
 case d37 => exact sc__law_behind.nd
 case d38 => exact (Or.inl q79.lk)
 case' d39 => apply me_op op_addM fm_add ?d40 ?d41
 case d40 => exact (me_var (pvk 1 q79))
 case' d41 => apply me_lst ?_
 case' d41 => apply ma_1 ?d43 ?_
 case' d43 => apply me_ix (ix_M (hu151 hr)) fm_ix ?d44 me_int ?_
 case' d44 => apply me_ix (ix_M (hu151 hr)) fm_ix ?d45 ?d46 ?_
 case' d45 => apply me_ix (ix_M (hu151 hr)) fm_ix ?d47 me_int ?_
 case d47 => exact (me_var (pvk 0 q83))
 case d46 => exact (me_var (pvk 5 q81))
 case' d31 => apply mss_cons ?d48 ?d49
 case' d48 => apply ms_if ?d50 ?d51 mss_nil
 case' d50 => apply mt_cmp ?d52 fm_eq ?d53 me_str ?_
 case d52 => exact (op_eqK (hu150 hr))
 case d53 => exact (me_var (pvk 4 q82))
 case' d51 => apply mss_one ?_
 case' d51 => apply ms_set (i := 1) ?d55 ?_ ?d56 ?d57 ?_ ?_
 case d55 => exact sc__law_behind.nd
 case d56 => exact (Or.inl q79.lk)
 case' d57 => apply me_op op_addM fm_add ?d58 ?d59
 case d58 => exact (me_var (pvk 1 q79))
 case' d59 => apply me_lst ?_
 case' d59 => apply ma_1 ?d61 ?_
 case' d61 => apply me_ix (ix_M (hu151 hr)) fm_ix ?d62 me_int ?_
 case' d62 => apply me_ix (ix_M (hu151 hr)) fm_ix ?d63 ?d64 ?_
 case' d63 => apply me_ix (ix_M (hu151 hr)) fm_ix ?d65 me_int ?_
 case d65 => exact (me_var (pvk 0 q83))
 case d64 => exact (me_var (pvk 5 q81))
 case' d49 => apply mss_one ?_
 case' d49 => apply ms_ret ?_
 case' d49 => apply me_tup ?_
 case' d49 => apply ma_2 ?d69 ?d70 ?_ ?_
 case d69 => exact (me_var (pvk 1 q79))
 case' d70 => apply me_op op_addM fm_add ?d71 ?d72
 case d71 => exact (me_var (pvk 2 q80))
 case' d72 => apply me_lst ?_
 case' d72 => apply ma_1 ?d74 ?_
 case d74 => exact (me_var (pvk 5 q81))
 all_goals (try walk_at "late")
theorem ok__law_plan (T : Txt K mg t) : FnOk P w K mg base CX0 2 t.f__law_plan t.d__law_plan ["_law_box_here", "_law_pattern_here"] (spM K m__law_plan) := by
 have C__law_moves := Cal.of (ok__law_moves (P := P) (w := w) (base := base) T) T.m__law_moves T.F__law_moves.kp T.b__law_moves
 have C__law_behind := Cal.of (ok__law_behind (P := P) (w := w) (base := base) T) T.m__law_behind T.F__law_behind.kp T.b__law_behind
 have C__law_take := Cal.of (ok__law_take (P := P) (w := w) (base := base) T) T.m__law_take T.F__law_take.kp T.b__law_take
 have z : FnOk P w K mg base CX0 2 t.f__law_plan t.d__law_plan ["_law_box_here", "_law_pattern_here"] (spM K (mFun 2 4 b__law_plan)) := by
  refine T.F__law_plan.okM (k := 1) sc__law_plan rfl fun cdv A outer s H E hr => ?_
  unfold b__law_plan
  conv => arg 2; whnf
  apply mss_cons ?d1 ?d2
  case' d1 => apply ms_par3 (i := 2) (j := 3) (k := 4) ?_ ?d3 ?_ ?_ ?_ ?_ ?_ ?_ ?d4 ?d5 ?d6 ?d7 ?_ ?_
  case d3 => exact sc__law_plan.nd
  case d4 => exact q85.lk
  case d5 => exact q88.lk
  case d6 => exact q89.lk
  case' d7 => apply ma_3 ?d8 ?d9 ?d10 ?_ ?_ ?_
  case' d8 => apply me_lstH ma_nil
  case' d9 => apply me_lst ma_nil
  case' d10 => apply me_lst ma_nil
  case' d2 => apply mss_cons ?d11 ?d12
  case' d11 => apply ms_set (i := 5) ?d13 ?_ ?d14 ?d15 ?_ ?_
  case d13 => exact sc__law_plan.nd
  case d14 => exact (Or.inl q86.lk)
  case' d15 => apply me_cal ?d16 ?_ ?d17 ?d18 ?_ ?_
  case d16 => exact C__law_moves
  case d17 => exact q90
  case' d18 => apply ma_3 ?d19 ?d20 ?d21 ?_ ?_ ?_
  case d19 => exact (me_var (pvk 1 q87))
  case d20 => exact (me_var (pvk 3 q88))
  case d21 => exact (me_var (pvk 4 q89))
  case' d12 => apply mss_cons ?d22 ?d23
  case' d22 => apply ms_while _ ?_ ?d24 ?d25
  case' d24 => apply mt_cmp ?d26 fm_ne ?d27 ?d28 ?_
  case d26 => exact (op_neK (hu151 hr))
  case d27 => exact (me_var (pvk 5 q86))
  case' d28 => apply me_lst ma_nil
  case' d25 => apply mss_cons ?d29 ?d30
  case' d29 => apply ms_expr ?d31 ?_
  case' d31 => apply me_bm PySem.F.plainAttrs_list PySem.F.slot_list_append PySem.F.type_list_append ?d32 ?d33 fm_append ?d34 ?d35 ?_ ?_ ?_ ?_ ?_
  case d32 => exact mt_append
  case d33 => exact (fun _ _ _ _ _ => isL_ty)
  case d34 => exact (me_var (pvk 2 q85))
  case' d35 => apply ma_1 ?d36 ?_
  case' d36 => apply me_ix (ix_M (hu151 hr)) fm_ix ?d37 ?d38 ?_
  case d37 => exact (me_var (pvk 5 q86))
  case' d38 => apply me_cal ?d39 ?_ ?d40 ?d41 ?_ ?_
  case d39 => exact C__law_take
  case d40 => exact q94
  case' d41 => apply ma_2 ?d42 ?d43 ?_ ?_
  case d42 => exact (me_var (pvk 0 q92))
  case' d43 => apply me_CB call_lenM fm_len ?d44 ?d45 PySem.boot_len ?d46 ?_ ?_
  case d44 => exact q93
  case d45 => exact T.z_len
  case' d46 => apply ma_1 ?d47 ?_
  case d47 => exact (me_var (pvk 5 q86))
  case' d30 => apply mss_cons ?d48 ?d49
  case' d48 => apply ms_asg ?d50 ?d51 ?_ ?_ ?_
  case' d50 => apply me_cal ?d52 ?_ ?d53 ?d54 ?_ ?_
  case d52 => exact C__law_behind
  case d53 => exact q91
  case' d54 => apply ma_4 ?d55 ?d56 ?d57 ?d58 ?_ ?_ ?_ ?_
  case d55 => exact (me_var (pvk 1 q87))
  case d56 => exact (me_var (pvk 3 q88))
  case d57 => exact (me_var (pvk 4 q89))
  case' d58 => apply me_ix (ix_M (hu151 hr)) fm_ix ?d59 ?d60 ?_
  case d59 => exact (me_var (pvk 2 q85))
  case' d60 => apply me_un un_neg fm_neg me_int
  case' d51 => apply mg_tup ?_ ?d61 ?_ ?_
  case' d61 => apply mgs_cons ?d62 ?d63 ?_
  case' d62 => apply mg_name ?_
  case' d62 => apply pg_name (i := 3) ?d65 ?_ ?d66 ?_
  case d65 => exact sc__law_plan.nd
  case d66 => exact (Or.inl q88.lk)
  case' d63 => apply mgs_cons ?d67 mgs_nil ?_
  case' d67 => apply mg_name ?_
  case' d67 => apply pg_name (i := 4) ?d69 ?_ ?d70 ?_
  case d69 => exact sc__law_plan.nd
  case d70 => exact (Or.inl q89.lk)
  case' d49 => apply mss_one ?_
  case' d49 => apply ms_set (i := 5) ?d72 ?_ ?d73 ?d74 ?_ ?_
  case d72 => exact sc__law_plan.nd
  case d73 => exact (Or.inl q86.lk)
  case' d74 => apply me_cal ?d75 ?_ ?d76 ?d77 ?_ ?_
  case d75 => exact C__law_moves
  case d76 => exact q90
  case' d77 => apply ma_3 ?d78 ?d79 ?d80 ?_ ?_ ?_
  case d78 => exact (me_var (pvk 1 q87))
  case d79 => exact (me_var (pvk 3 q88))
  case d80 => exact (me_var (pvk 4 q89))
  case' d23 => apply mss_one ?_
  case' d23 => apply ms_ret ?_
  case d23 => exact (me_var (pvk 2 q85))
  all_goals (try walk_at "late")
 exact z.imp fun _ _ _ _ q => spM_seal q
theorem ok__law_is_plan (T : Txt K mg t) : FnOk P w K mg base CX0 2 t.f__law_is_plan t.d__law_is_plan ["_law_pattern_here", "_law_thing"] (spM K m__law_is_plan) := by
 have C__law_behind := Cal.of (ok__law_behind (P := P) (w := w) (base := base) T) T.m__law_behind T.F__law_behind.kp T.b__law_behind
 have C__law_moves := Cal.of (ok__law_moves (P := P) (w := w) (base := base) T) T.m__law_moves T.F__law_moves.kp T.b__law_moves
 refine T.F__law_is_plan.okM (k := 1) sc__law_is_plan rfl fun cdv A outer s H E hr => ?_
 unfold b__law_is_plan
 conv => arg 2; whnf
 apply mss_cons ?d1 ?d2
 case' d1 => apply ms_if ?d3 ?d4 mss_nil
 case' d3 => apply mt_not ?_
 case' d3 => apply mt_val ?d6 ?_
 case' d6 => apply me_CB call_instM fm_inst ?d7 ?d8 PyProof.Rows.boot_isinstance ?d9 ?_ ?_
 case d7 => exact q104
 case d8 => exact T.z_isinstance
 case' d9 => apply ma_2 ?d10 ?d11 ?_ ?_
 case d10 => exact (me_var (pvk 1 q99))
 case' d11 => apply me_tup ?_
 case' d11 => apply ma_2 ?d13 ?d14 ?_ ?_
 case' d13 => apply me_C ?d15 ?_
 case' d15 => apply pe_bltnk (v := .ty "tuple") ?d16 ?d17 ?_ ?_
 case d16 => exact q105
 case d17 => exact T.z_tuple
 case' d14 => apply me_C ?d18 ?_
 case' d18 => apply pe_bltnk (v := .ty "list") ?d19 ?d20 ?_ ?_
 case d19 => exact q106
 case d20 => exact T.z_list
 case' d4 => apply mss_one ?_
 case' d4 => apply ms_ret me_bl
 case' d2 => apply mss_cons ?d22 ?d23
 case' d22 => apply ms_par (i := 2) (j := 3) ?_ ?d24 ?_ ?_ ?_ ?d25 ?d26 ?d27 ?_ ?_
 case d24 => exact sc__law_is_plan.nd
 case d25 => exact q98.lk
 case d26 => exact q95.lk
 case' d27 => apply ma_2 ?d28 ?d29 ?_ ?_
 case' d28 => apply me_lst ma_nil
 case' d29 => apply me_lst ma_nil
 case' d23 => apply mss_cons ?d30 ?d31
 case' d30 => apply ms_for ?_ ?_ ?d32 ?d33 ?d34 ?_
 case' d32 => apply mi_any ?_
 case d32 => exact (me_var (pvk 1 q99))
 case' d33 => apply mg_name ?_
 case' d33 => apply pg_name (i := 4) ?d37 ?_ ?d38 ?_
 case d37 => exact sc__law_is_plan.nd
 case d38 => exact (Or.inl q100.lk)
 case' d34 => apply mss_cons ?d39 ?d40
 case' d39 => apply ms_if ?d41 ?d42 mss_nil
 case' d41 => apply PW.pt ?_
 case' d41 => apply mw_or ?d44 ?d45
 case' d44 => apply mt_not ?_
 case' d44 => apply mt_val ?d47 ?_
 case' d47 => apply me_CB call_instM fm_inst ?d48 ?d49 PyProof.Rows.boot_isinstance ?d50 ?_ ?_
 case d48 => exact q104
 case d49 => exact T.z_isinstance
 case' d50 => apply ma_2 ?d51 ?d52 ?_ ?_
 case d51 => exact (me_var (pvk 4 q100))
 case' d52 => apply me_C ?d53 ?_
 case' d53 => apply pe_bltnk (v := .ty "tuple") ?d54 ?d55 ?_ ?_
 case d54 => exact q105
 case d55 => exact T.z_tuple
 case' d45 => apply mw_or ?d56 ?d57
 case' d56 => apply mt_cmp ?d58 fm_ne ?d59 me_int ?_
 case d58 => exact (op_neK (hu151 hr))
 case' d59 => apply me_CB call_lenM fm_len ?d60 ?d61 PySem.boot_len ?d62 ?_ ?_
 case d60 => exact q96
 case d61 => exact T.z_len
 case' d62 => apply ma_1 ?d63 ?_
 case d63 => exact (me_var (pvk 4 q100))
 case' d57 => apply mw_or1 ?_
 case' d57 => apply mt_val ?d65 ?_
 case' d65 => apply me_CB call_instM fm_inst ?d66 ?d67 PyProof.Rows.boot_isinstance ?d68 ?_ ?_
 case d66 => exact q104
 case d67 => exact T.z_isinstance
 case' d68 => apply ma_2 ?d69 ?d70 ?_ ?_
 case' d69 => apply me_ix (ix_M (hu151 hr)) fm_ix ?d71 me_int ?_
 case d71 => exact (me_var (pvk 4 q100))
 case' d70 => apply me_C ?d72 ?_
 case' d72 => apply pe_bltnk (v := .ty "bool") ?d73 ?d74 ?_ ?_
 case d73 => exact q103
 case d74 => exact T.z_bool
 case' d42 => apply mss_one ?_
 case' d42 => apply ms_ret me_bl
 case' d40 => apply mss_cons ?d76 ?d77
 case' d76 => apply ms_if ?d78 ?d79 mss_nil
 case' d78 => apply mt_cmp ?d80 fm_notIn ?d81 ?d82 ?_
 case d80 => exact (op_notInM (hu151 hr))
 case d81 => exact (me_var (pvk 4 q100))
 case' d82 => apply me_cal ?d83 ?_ ?d84 ?d85 ?_ ?_
 case d83 => exact C__law_moves
 case d84 => exact q102
 case' d85 => apply ma_3 ?d86 ?d87 ?d88 ?_ ?_ ?_
 case d86 => exact (me_var (pvk 0 q97))
 case d87 => exact (me_var (pvk 2 q98))
 case d88 => exact (me_var (pvk 3 q95))
 case' d79 => apply mss_one ?_
 case' d79 => apply ms_ret me_bl
 case' d77 => apply mss_one ?_
 case' d77 => apply ms_asg ?d91 ?d92 ?_ ?_ ?_
 case' d91 => apply me_cal ?d93 ?_ ?d94 ?d95 ?_ ?_
 case d93 => exact C__law_behind
 case d94 => exact q101
 case' d95 => apply ma_4 ?d96 ?d97 ?d98 ?d99 ?_ ?_ ?_ ?_
 case d96 => exact (me_var (pvk 0 q97))
 case d97 => exact (me_var (pvk 2 q98))
 case d98 => exact (me_var (pvk 3 q95))
 case d99 => exact (me_var (pvk 4 q100))
 case' d92 => apply mg_tup ?_ ?d100 ?_ ?_
 case' d100 => apply mgs_cons ?d101 ?d102 ?_
 case' d101 => apply mg_name ?_
 case' d101 => apply pg_name (i := 2) ?d104 ?_ ?d105 ?_
 case d104 => exact sc__law_is_plan.nd
 case d105 => exact (Or.inl q98.lk)
 case' d102 => apply mgs_cons ?d106 mgs_nil ?_
 case' d106 => apply mg_name ?_
 case' d106 => apply pg_name (i := 3) ?d108 ?_ ?d109 ?_
 case d108 => exact sc__law_is_plan.nd
 case d109 => exact (Or.inl q95.lk)
 case' d31 => apply mss_one ?_
 case' d31 => apply ms_ret ?_
 case' d31 => apply me_and ?d112 ?d113
 case' d112 => apply me_cmp ?d114 fm_eq ?d115 ?d116 ?_
 case d114 => exact (op_eqK (hu150 hr))
 case' d115 => apply me_CB call_lenM fm_len ?d117 ?d118 PySem.boot_len ?d119 ?_ ?_
 case d117 => exact q96
 case d118 => exact T.z_len
 case' d119 => apply ma_1 ?d120 ?_
 case d120 => exact (me_var (pvk 2 q98))
 case' d116 => apply me_CB call_lenM fm_len ?d121 ?d122 PySem.boot_len ?d123 ?_ ?_
 case d121 => exact q96
 case d122 => exact T.z_len
 case' d123 => apply ma_1 ?d124 ?_
 case' d124 => apply me_ix (ix_M (hu151 hr)) fm_ix ?d125 me_int ?_
 case d125 => exact (me_var (pvk 0 q97))
 case' d113 => apply me_one ?_
 case' d113 => apply me_cmp ?d127 fm_eq ?d128 ?d129 ?_
 case d127 => exact (op_eqK (hu150 hr))
 case' d128 => apply me_CB call_lenM fm_len ?d130 ?d131 PySem.boot_len ?d132 ?_ ?_
 case d130 => exact q96
 case d131 => exact T.z_len
 case' d132 => apply ma_1 ?d133 ?_
 case d133 => exact (me_var (pvk 3 q95))
 case' d129 => apply me_CB call_lenM fm_len ?d134 ?d135 PySem.boot_len ?d136 ?_ ?_
 case d134 => exact q96
 case d135 => exact T.z_len
 case' d136 => apply ma_1 ?d137 ?_
 case' d137 => apply me_ix (ix_M (hu151 hr)) fm_ix ?d138 me_int ?_
 case d138 => exact (me_var (pvk 0 q97))
 all_goals (try walk_at "late")
theorem ok__law_bent (T : Txt K mg t) : FnOk P w K mg base CX0 2 t.f__law_bent t.d__law_bent ["_law_box_here", "_law_pattern_here", "_law_plan_here"] (spM K m__law_bent) := by
 have C__law_take := Cal.of (ok__law_take (P := P) (w := w) (base := base) T) T.m__law_take T.F__law_take.kp T.b__law_take
 have z : FnOk P w K mg base CX0 2 t.f__law_bent t.d__law_bent ["_law_box_here", "_law_pattern_here", "_law_plan_here"] (spM K (mFun 3 6 b__law_bent)) := by
  refine T.F__law_bent.okM (k := 1) sc__law_bent rfl fun cdv A outer s H E hr => ?_
  unfold b__law_bent
  conv => arg 2; whnf
  apply mss_cons ?d1 ?d2
  case' d1 => apply ms_set (i := 3) ?d3 ?_ ?d4 ?d5 ?_ ?_
  case d3 => exact sc__law_bent.nd
  case d4 => exact (Or.inl q111.lk)
  case' d5 => apply me_cal ?d6 ?_ ?d7 ?d8 ?_ ?_
  case d6 => exact C__law_take
  case d7 => exact q109
  case' d8 => apply ma_2 ?d9 ?d10 ?_ ?_
  case d9 => exact (me_var (pvk 0 q108))
  case' d10 => apply me_CB call_lenM fm_len ?d11 ?d12 PySem.boot_len ?d13 ?_ ?_
  case d11 => exact q118
  case d12 => exact T.z_len
  case' d13 => apply ma_1 ?d14 ?_
  case d14 => exact (me_var (pvk 2 q110))
  case' d2 => apply mss_cons ?d15 ?d16
  case' d15 => apply ms_set (i := 4) ?d17 ?_ ?d18 ?d19 ?_ ?_
  case d17 => exact sc__law_bent.nd
  case d18 => exact (Or.inl q115.lk)
  case' d19 => apply me_ix (ix_M (hu151 hr)) fm_ix ?d20 ?d21 ?_
  case' d20 => apply me_lst ?_
  case' d20 => apply ma_c4 me_str me_str me_str me_str ?d23 ?_ ?_ ?_ ?_
  case' d23 => apply ma_3 me_str me_str me_str ?_ ?_ ?_
  case' d21 => apply me_cal ?d24 ?_ ?d25 ?d26 ?_ ?_
  case d24 => exact C__law_take
  case d25 => exact q109
  case' d26 => apply ma_2 ?d27 me_int ?_ ?_
  case d27 => exact (me_var (pvk 0 q108))
  case' d16 => apply mss_cons ?d28 ?d29
  case' d28 => apply ms_set (i := 5) ?d30 ?_ ?d31 ?d32 ?_ ?_
  case d30 => exact sc__law_bent.nd
  case d31 => exact (Or.inl q114.lk)
  case' d32 => apply me_op op_sub fm_sub ?_ me_int
  case' d32 => apply me_cal ?d34 ?_ ?d35 ?d36 ?_ ?_
  case d34 => exact C__law_take
  case d35 => exact q109
  case' d36 => apply ma_2 ?d37 me_int ?_ ?_
  case d37 => exact (me_var (pvk 0 q108))
  case' d29 => apply mss_cons ?d38 ?d39
  case' d38 => apply ms_set (i := 6) ?d40 ?_ ?d41 ?d42 ?_ ?_
  case d40 => exact sc__law_bent.nd
  case d41 => exact (Or.inl q117.lk)
  case' d42 => apply me_op op_addM fm_add ?d43 ?d44
  case' d43 => apply me_slice sl_M fm_sl ?d45 mo_none ?d46
  case d45 => exact (me_var (pvk 2 q110))
  case' d46 => apply mo_some ?_
  case d46 => exact (me_var (pvk 3 q111))
  case' d44 => apply me_slice sl_M fm_sl ?d48 ?d49 mo_none
  case d48 => exact (me_var (pvk 2 q110))
  case' d49 => apply mo_some ?_
  case' d49 => apply me_op op_addM fm_add ?_ me_int
  case d49 => exact (me_var (pvk 3 q111))
  case' d39 => apply mss_cons ?d52 ?d53
  case' d52 => apply ms_set (i := 7) ?d54 ?_ ?d55 ?d56 ?_ ?_
  case d54 => exact sc__law_bent.nd
  case d55 => exact (Or.inl q107.lk)
  case' d56 => apply me_lstH ?_
  case' d56 => apply ma_c4 ?d58 ?d59 ?d60 ?d61 ?d62 ?_ ?_ ?_ ?_
  case d58 => exact (me_var (pvk 6 q117))
  case' d59 => apply me_op op_addM fm_add ?d63 ?d64
  case d63 => exact (me_var (pvk 2 q110))
  case' d64 => apply me_lst ?_
  case' d64 => apply ma_1 ?d66 ?_
  case' d66 => apply me_ix (ix_M (hu151 hr)) fm_ix ?d67 ?d68 ?_
  case d67 => exact (me_var (pvk 2 q110))
  case d68 => exact (me_var (pvk 3 q111))
  case' d60 => apply me_op op_addM fm_add ?d69 ?d70
  case d69 => exact (me_var (pvk 6 q117))
  case' d70 => apply me_lst ?_
  case' d70 => apply ma_1 ?d72 ?_
  case' d72 => apply me_ix (ix_M (hu151 hr)) fm_ix ?d73 ?d74 ?_
  case d73 => exact (me_var (pvk 2 q110))
  case d74 => exact (me_var (pvk 3 q111))
  case' d61 => apply me_op op_addM fm_add ?d75 ?d76
  case' d75 => apply me_lst ?_
  case' d75 => apply ma_1 ?d78 ?_
  case' d78 => apply me_ix (ix_M (hu151 hr)) fm_ix ?d79 ?d80 ?_
  case d79 => exact (me_var (pvk 2 q110))
  case d80 => exact (me_var (pvk 3 q111))
  case d76 => exact (me_var (pvk 6 q117))
  case' d62 => apply ma_1 ?d81 ?_
  case' d81 => apply me_op op_addM fm_add ?d82 ?d83
  case d82 => exact (me_var (pvk 2 q110))
  case' d83 => apply me_lst ?_
  case' d83 => apply ma_1 ?d85 ?_
  case' d85 => apply me_tup ?_
  case' d85 => apply ma_2 ?d87 ?d88 ?_ ?_
  case d87 => exact (me_var (pvk 4 q115))
  case d88 => exact (me_var (pvk 5 q114))
  case' d53 => apply mss_cons ?d89 ?d90
  case' d89 => apply ms_expr ?d91 ?_
  case' d91 => apply me_bm PySem.F.plainAttrs_list PySem.F.slot_list_append PySem.F.type_list_append ?d92 ?d93 fm_append ?d94 ?d95 ?_ ?_ ?_ ?_ ?_
  case d92 => exact mt_append
  case d93 => exact (fun _ _ _ _ _ => isL_ty)
  case d94 => exact (me_var (pvk 7 q107))
  case' d95 => apply ma_1 ?d96 ?_
  case' d96 => apply me_listRev ?_ ?d97 ?d98 ?d99 ?d100 ?d101 ?_
  case d97 => exact q113
  case d98 => exact T.z_list
  case d99 => exact q116
  case d100 => exact T.z_reversed
  case d101 => exact (me_var (pvk 2 q110))
  case' d90 => apply mss_cons ?d102 ?d103
  case' d102 => apply ms_set (i := 7) ?d104 ?_ ?d105 ?d106 ?_ ?_
  case d104 => exact sc__law_bent.nd
  case d105 => exact (Or.inl q107.lk)
  case' d106 => apply me_addH ?d107 ?d108
  case d107 => exact (me_var (pvk 7 q107))
  case' d108 => apply me_lst ?_
  case' d108 => apply ma_1 ?d110 ?_
  case' d110 => apply me_op op_addM fm_add ?d111 ?d112
  case' d111 => apply me_op op_addM fm_add ?d113 ?d114
  case' d113 => apply me_slice sl_M fm_sl ?d115 mo_none ?d116
  case d115 => exact (me_var (pvk 2 q110))
  case' d116 => apply mo_some ?_
  case d116 => exact (me_var (pvk 3 q111))
  case' d114 => apply me_lst ?_
  case' d114 => apply ma_1 ?d119 ?_
  case' d119 => apply me_tup ?_
  case' d119 => apply ma_2 ?d121 ?d122 ?_ ?_
  case d121 => exact (me_var (pvk 4 q115))
  case' d122 => apply me_ix (ix_M (hu151 hr)) fm_ix ?d123 me_int ?_
  case' d123 => apply me_ix (ix_M (hu151 hr)) fm_ix ?d124 ?d125 ?_
  case d124 => exact (me_var (pvk 2 q110))
  case d125 => exact (me_var (pvk 3 q111))
  case' d112 => apply me_slice sl_M fm_sl ?d126 ?d127 mo_none
  case d126 => exact (me_var (pvk 2 q110))
  case' d127 => apply mo_some ?_
  case' d127 => apply me_op op_addM fm_add ?_ me_int
  case d127 => exact (me_var (pvk 3 q111))
  case' d103 => apply mss_cons ?d130 ?d131
  case' d130 => apply ms_set (i := 7) ?d132 ?_ ?d133 ?d134 ?_ ?_
  case d132 => exact sc__law_bent.nd
  case d133 => exact (Or.inl q107.lk)
  case' d134 => apply me_addH ?d135 ?d136
  case d135 => exact (me_var (pvk 7 q107))
  case' d136 => apply me_lst ?_
  case' d136 => apply ma_1 ?d138 ?_
  case' d138 => apply me_op op_addM fm_add ?d139 ?d140
  case' d139 => apply me_op op_addM fm_add ?d141 ?d142
  case' d141 => apply me_slice sl_M fm_sl ?d143 mo_none ?d144
  case d143 => exact (me_var (pvk 2 q110))
  case' d144 => apply mo_some ?_
  case d144 => exact (me_var (pvk 3 q111))
  case' d142 => apply me_lst ?_
  case' d142 => apply ma_1 ?d147 ?_
  case' d147 => apply me_tup ?_
  case' d147 => apply ma_2 ?d149 ?d150 ?_ ?_
  case' d149 => apply me_ix (ix_M (hu151 hr)) fm_ix ?d151 me_int ?_
  case' d151 => apply me_ix (ix_M (hu151 hr)) fm_ix ?d152 ?d153 ?_
  case d152 => exact (me_var (pvk 2 q110))
  case d153 => exact (me_var (pvk 3 q111))
  case d150 => exact (me_var (pvk 5 q114))
  case' d140 => apply me_slice sl_M fm_sl ?d154 ?d155 mo_none
  case d154 => exact (me_var (pvk 2 q110))
  case' d155 => apply mo_some ?_
  case' d155 => apply me_op op_addM fm_add ?_ me_int
  case d155 => exact (me_var (pvk 3 q111))
  case' d131 => apply mss_cons ?d158 ?d159
  case' d158 => apply ms_set (i := 8) ?d160 ?_ ?d161 ?d162 ?_ ?_
  case d160 => exact sc__law_bent.nd
  case d161 => exact (Or.inl q112.lk)
  case' d162 => apply me_lst ?_
  case' d162 => apply ma_c4 me_non ?d164 ?d165 ?d166 ?d167 ?_ ?_ ?_ ?_
  case' d164 => apply me_tup ?_
  case' d164 => apply ma_1 ?d169 ?_
  case' d169 => apply me_ix (ix_M (hu151 hr)) fm_ix ?d170 me_int ?_
  case' d170 => apply me_ix (ix_M (hu151 hr)) fm_ix ?d171 ?d172 ?_
  case d171 => exact (me_var (pvk 2 q110))
  case d172 => exact (me_var (pvk 3 q111))
  case' d165 => apply me_CTy call_list_of fm_list ?d173 ?d174 ?_ ?d175 ?_ ?_
  case d173 => exact q113
  case d174 => exact T.z_list
  case' d175 => apply ma_1 ?d176 ?_
  case' d176 => apply me_ix (ix_M (hu151 hr)) fm_ix ?d177 ?d178 ?_
  case d177 => exact (me_var (pvk 2 q110))
  case d178 => exact (me_var (pvk 3 q111))
  case' d166 => apply me_tup ?_
  case' d166 => apply ma_2 ?d180 me_bl ?_ ?_
  case' d180 => apply me_ix (ix_M (hu151 hr)) fm_ix ?d181 me_int ?_
  case' d181 => apply me_ix (ix_M (hu151 hr)) fm_ix ?d182 ?d183 ?_
  case d182 => exact (me_var (pvk 2 q110))
  case d183 => exact (me_var (pvk 3 q111))
  case' d167 => apply ma_2 ?d184 me_str ?_ ?_
  case' d184 => apply me_tup ?_
  case' d184 => apply ma_3 ?d186 ?d187 me_int ?_ ?_ ?_
  case' d186 => apply me_ix (ix_M (hu151 hr)) fm_ix ?d188 me_int ?_
  case' d188 => apply me_ix (ix_M (hu151 hr)) fm_ix ?d189 ?d190 ?_
  case d189 => exact (me_var (pvk 2 q110))
  case d190 => exact (me_var (pvk 3 q111))
  case' d187 => apply me_ix (ix_M (hu151 hr)) fm_ix ?d191 me_int ?_
  case' d191 => apply me_ix (ix_M (hu151 hr)) fm_ix ?d192 ?d193 ?_
  case d192 => exact (me_var (pvk 2 q110))
  case d193 => exact (me_var (pvk 3 q111))
  case' d159 => apply mss_cons ?d194 ?d195
  case' d194 => apply ms_set (i := 8) ?d196 ?_ ?d197 ?d198 ?_ ?_
  case d196 => exact sc__law_bent.nd
  case d197 => exact (Or.inl q112.lk)
  case' d198 => apply me_op op_addM fm_add ?d199 ?d200
  case d199 => exact (me_var (pvk 8 q112))
  case' d200 => apply me_lst ?_
  case' d200 => apply ma_c4 ?d202 ?d203 ?d204 me_int ?d205 ?_ ?_ ?_ ?_
  case' d202 => apply me_tup ?_
  case' d202 => apply ma_2 ?d207 ?d208 ?_ ?_
  case' d207 => apply me_ix (ix_M (hu151 hr)) fm_ix ?d209 me_int ?_
  case' d209 => apply me_ix (ix_M (hu151 hr)) fm_ix ?d210 ?d211 ?_
  case d210 => exact (me_var (pvk 2 q110))
  case d211 => exact (me_var (pvk 3 q111))
  case' d208 => apply me_ix (ix_M (hu151 hr)) fm_ix ?d212 me_int ?_
  case' d212 => apply me_ix (ix_M (hu151 hr)) fm_ix ?d213 ?d214 ?_
  case d213 => exact (me_var (pvk 2 q110))
  case d214 => exact (me_var (pvk 3 q111))
  case' d203 => apply me_tup ?_
  case' d203 => apply ma_2 ?d216 me_non ?_ ?_
  case' d216 => apply me_ix (ix_M (hu151 hr)) fm_ix ?d217 me_int ?_
  case' d217 => apply me_ix (ix_M (hu151 hr)) fm_ix ?d218 ?d219 ?_
  case d218 => exact (me_var (pvk 2 q110))
  case d219 => exact (me_var (pvk 3 q111))
  case' d204 => apply me_tup ?_
  case' d204 => apply ma_2 ?d221 me_str ?_ ?_
  case' d221 => apply me_ix (ix_M (hu151 hr)) fm_ix ?d222 me_int ?_
  case' d222 => apply me_ix (ix_M (hu151 hr)) fm_ix ?d223 ?d224 ?_
  case d223 => exact (me_var (pvk 2 q110))
  case d224 => exact (me_var (pvk 3 q111))
  case' d205 => apply ma_2 ?d225 ?d226 ?_ ?_
  case' d225 => apply me_tup ma_nil
  case' d226 => apply me_tup ?_
  case' d226 => apply ma_2 ?d228 ?d229 ?_ ?_
  case' d228 => apply me_tup ma_nil
  case' d229 => apply me_tup ma_nil
  case' d195 => apply mss_cons ?d230 ?d231
  case' d230 => apply ms_set (i := 7) ?d232 ?_ ?d233 ?d234 ?_ ?_
  case d232 => exact sc__law_bent.nd
  case d233 => exact (Or.inl q107.lk)
  case' d234 => apply me_addH ?d235 ?d236
  case d235 => exact (me_var (pvk 7 q107))
  case' d236 => apply me_lst ?_
  case' d236 => apply ma_1 ?d238 ?_
  case' d238 => apply me_op op_addM fm_add ?d239 ?d240
  case' d239 => apply me_op op_addM fm_add ?d241 ?d242
  case' d241 => apply me_slice sl_M fm_sl ?d243 mo_none ?d244
  case d243 => exact (me_var (pvk 2 q110))
  case' d244 => apply mo_some ?_
  case d244 => exact (me_var (pvk 3 q111))
  case' d242 => apply me_lst ?_
  case' d242 => apply ma_1 ?d247 ?_
  case' d247 => apply me_ix (ix_M (hu151 hr)) fm_ix ?d248 ?d249 ?_
  case d248 => exact (me_var (pvk 8 q112))
  case' d249 => apply me_cal ?d250 ?_ ?d251 ?d252 ?_ ?_
  case d250 => exact C__law_take
  case d251 => exact q109
  case' d252 => apply ma_2 ?d253 me_int ?_ ?_
  case d253 => exact (me_var (pvk 0 q108))
  case' d240 => apply me_slice sl_M fm_sl ?d254 ?d255 mo_none
  case d254 => exact (me_var (pvk 2 q110))
  case' d255 => apply mo_some ?_
  case' d255 => apply me_op op_addM fm_add ?_ me_int
  case d255 => exact (me_var (pvk 3 q111))
  case' d231 => apply mss_cons ?d258 ?d259
  case' d258 => apply ms_set (i := 7) ?d260 ?_ ?d261 ?d262 ?_ ?_
  case d260 => exact sc__law_bent.nd
  case d261 => exact (Or.inl q107.lk)
  case' d262 => apply me_addH ?d263 ?d264
  case d263 => exact (me_var (pvk 7 q107))
  case' d264 => apply me_lst ?_
  case' d264 => apply ma_1 ?d266 ?_
  case' d266 => apply me_ix (ix_M (hu151 hr)) fm_ix ?d267 ?d268 ?_
  case' d267 => apply me_lst ?_
  case' d267 => apply ma_c4 me_non ?d270 ?d271 me_int ?d272 ?_ ?_ ?_ ?_
  case' d270 => apply me_tup ma_nil
  case' d271 => apply me_lst ma_nil
  case' d272 => apply ma_c4 me_str me_bl ?d273 ?d274 ?d275 ?_ ?_ ?_ ?_
  case' d273 => apply me_tup ?_
  case' d273 => apply ma_2 me_str me_int ?_ ?_
  case' d274 => apply me_lst ?_
  case' d274 => apply ma_1 ?d278 ?_
  case' d278 => apply me_tup ?_
  case' d278 => apply ma_2 me_str me_int ?_ ?_
  case' d275 => apply ma_1 me_str ?_
  case' d268 => apply me_cal ?d280 ?_ ?d281 ?d282 ?_ ?_
  case d280 => exact C__law_take
  case d281 => exact q109
  case' d282 => apply ma_2 ?d283 me_int ?_ ?_
  case d283 => exact (me_var (pvk 0 q108))
  case' d259 => apply mss_one ?_
  case' d259 => apply ms_ret ?_
  case' d259 => apply me_ix (ix_M (hu151 hr)) fm_ix ?d286 ?d287 ?_
  case d286 => exact (me_var (pvk 7 q107))
  case' d287 => apply me_cal ?d288 ?_ ?d289 ?d290 ?_ ?_
  case d288 => exact C__law_take
  case d289 => exact q109
  case' d290 => apply ma_2 ?d291 me_int ?_ ?_
  case d291 => exact (me_var (pvk 0 q108))
  all_goals (try walk_at "late")
 exact z.imp fun _ _ _ _ q => spM_seal q
theorem ok_law (T : Txt K mg t) : FnOk P w K mg base CX0 5 t.f_law t.d_law ["_law_script"] (spM K m_law) := by
 have C__law_pattern := Cal.of (ok__law_pattern (P := P) (w := w) (base := base) T) T.m__law_pattern T.F__law_pattern.kp T.b__law_pattern
 have C__law_box := Cal.of (ok__law_box (P := P) (w := w) (base := base) T) T.m__law_box T.F__law_box.kp T.b__law_box
 have C__law_plan := Cal.of (ok__law_plan (P := P) (w := w) (base := base) T) T.m__law_plan T.F__law_plan.kp T.b__law_plan
 have C__law_bent := Cal.of (ok__law_bent (P := P) (w := w) (base := base) T) T.m__law_bent T.F__law_bent.kp T.b__law_bent
 have C_is_plan := Cal.of (ok_is_plan (P := P) (w := w) (base := base) T) T.m_is_plan T.F_is_plan.kp T.b_is_plan
 have C__law_is_plan := Cal.of (ok__law_is_plan (P := P) (w := w) (base := base) T) T.m__law_is_plan T.F__law_is_plan.kp T.b__law_is_plan
 refine T.F_law.okM (k := 4) sc_law rfl fun cdv A outer s H E hr => ?_
 unfold b_law
 conv => arg 2; whnf
 apply mss_cons ?d1 ?d2
 case' d1 => apply ms_set (i := 1) ?d3 ?_ ?d4 ?d5 ?_ ?_
 case d3 => exact sc_law.nd
 case d4 => exact (Or.inl q126.lk)
 case' d5 => apply me_cal ?d6 ?_ ?d7 ?d8 ?_ ?_
 case d6 => exact C__law_pattern
 case d7 => exact q138
 case' d8 => apply ma_1 ?d9 ?_
 case' d9 => apply me_cal ?d10 ?_ ?d11 ?d12 ?_ ?_
 case d10 => exact C__law_box
 case d11 => exact q137
 case' d12 => apply ma_2 ?d13 me_int ?_ ?_
 case d13 => exact (me_var (pvk 0 q119))
 case' d2 => apply mss_cons ?d14 ?d15
 case' d14 => apply ms_for ?_ ?_ ?d16 ?d17 ?d18 ?_
 case' d16 => apply mi_range1 ?d19 ?d20 ?d21 ?_
 case d19 => exact q122.lk
 case d20 => exact T.z_range
 case' d21 => apply ma_1 ?d22 ?_
 case' d22 => apply me_CB ?d23 fm_min ?d24 ?d25 PyProof.Rows.boot_min ?d26 ?_ ?_
 case d23 => exact (call_min2 rfl)
 case d24 => exact q121
 case d25 => exact T.z_min
 case' d26 => apply ma_2 me_int ?d27 ?_ ?_
 case' d27 => apply me_op op_addM fm_add me_int ?_
 case' d27 => apply me_CB call_lenM fm_len ?d29 ?d30 PySem.boot_len ?d31 ?_ ?_
 case d29 => exact q120
 case d30 => exact T.z_len
 case' d31 => apply ma_1 ?d32 ?_
 case d32 => exact (me_var (pvk 0 q119))
 case' d17 => apply mg_name ?_
 case' d17 => apply pg_name (i := 2) ?d34 ?_ ?d35 ?_
 case d34 => exact sc_law.nd
 case d35 => exact (Or.inl q123.lk)
 case' d18 => apply mss_cons ?d36 ?d37
 case' d36 => apply ms_set (i := 3) ?d38 ?_ ?d39 ?d40 ?_ ?_
 case d38 => exact sc_law.nd
 case d39 => exact (Or.inl q132.lk)
 case' d40 => apply me_cal ?d41 ?_ ?d42 ?d43 ?_ ?_
 case d41 => exact C__law_box
 case d42 => exact q137
 case' d43 => apply ma_2 ?d44 ?d45 ?_ ?_
 case d44 => exact (me_var (pvk 0 q119))
 case d45 => exact (me_var (pvk 2 q123))
 case' d37 => apply mss_cons ?d46 ?d47
 case' d46 => apply ms_set (i := 4) ?d48 ?_ ?d49 ?d50 ?_ ?_
 case d48 => exact sc_law.nd
 case d49 => exact (Or.inl q133.lk)
 case' d50 => apply me_cal ?d51 ?_ ?d52 ?d53 ?_ ?_
 case d51 => exact C__law_plan
 case d52 => exact q136
 case' d53 => apply ma_2 ?d54 ?d55 ?_ ?_
 case d54 => exact (me_var (pvk 3 q132))
 case d55 => exact (me_var (pvk 1 q126))
 case' d47 => apply mss_cons ?d56 ?d57
 case' d56 => apply ms_if ?d58 ?d59 mss_nil
 case' d58 => apply PW.pt ?_
 case' d58 => apply mw_or ?d61 ?d62
 case' d61 => apply mt_cmp op_isNotA fm_isNot ?d63 me_bl ?_
 case' d63 => apply me_cal ?d64 ?_ ?d65 ?d66 ?_ ?_
 case d64 => exact C_is_plan
 case d65 => exact q131
 case' d66 => apply ma_2 ?d67 ?d68 ?_ ?_
 case d67 => exact (me_var (pvk 1 q126))
 case d68 => exact (me_var (pvk 4 q133))
 case' d62 => apply mw_or1 ?_
 case' d62 => apply mt_cmp op_isNotA fm_isNot ?d70 me_bl ?_
 case' d70 => apply me_cal ?d71 ?_ ?d72 ?d73 ?_ ?_
 case d71 => exact C_is_plan
 case d72 => exact q131
 case' d73 => apply ma_2 ?d74 ?d75 ?_ ?_
 case d74 => exact (me_var (pvk 1 q126))
 case' d75 => apply me_CTy call_tuple_of fm_tuple ?d76 ?d77 ?_ ?d78 ?_ ?_
 case d76 => exact q135
 case d77 => exact T.z_tuple
 case' d78 => apply ma_1 ?d79 ?_
 case d79 => exact (me_var (pvk 4 q133))
 case' d59 => apply mss_one ?_
 case' d59 => apply ms_ret me_bl
 case' d57 => apply mss_one ?_
 case' d57 => apply ms_for ?_ ?_ ?d82 ?d83 ?d84 ?_
 case' d82 => apply mi_range1 ?d85 ?d86 ?d87 ?_
 case d85 => exact q122.lk
 case d86 => exact T.z_range
 case' d87 => apply ma_1 me_int ?_
 case' d83 => apply mg_name ?_
 case' d83 => apply pg_name (i := 5) ?d89 ?_ ?d90 ?_
 case d89 => exact sc_law.nd
 case d90 => exact (Or.inl q124.lk)
 case' d84 => apply mss_cons ?d91 ?d92
 case' d91 => apply ms_set (i := 6) ?d93 ?_ ?d94 ?d95 ?_ ?_
 case d93 => exact sc_law.nd
 case d94 => exact (Or.inl q127.lk)
 case' d95 => apply me_cal ?d96 ?_ ?d97 ?d98 ?_ ?_
 case d96 => exact C__law_bent
 case d97 => exact q134
 case' d98 => apply ma_3 ?d99 ?d100 ?d101 ?_ ?_ ?_
 case d99 => exact (me_var (pvk 3 q132))
 case d100 => exact (me_var (pvk 1 q126))
 case d101 => exact (me_var (pvk 4 q133))
 case' d92 => apply mss_cons ?d102 ?d103
 case' d102 => apply ms_set (i := 7) ?d104 ?_ ?d105 ?d106 ?_ ?_
 case d104 => exact sc_law.nd
 case d105 => exact (Or.inl q125.lk)
 case' d106 => apply me_cal ?d107 ?_ ?d108 ?d109 ?_ ?_
 case d107 => exact C_is_plan
 case d108 => exact q131
 case' d109 => apply ma_2 ?d110 ?d111 ?_ ?_
 case d110 => exact (me_var (pvk 1 q126))
 case d111 => exact (me_var (pvk 6 q127))
 case' d103 => apply mss_one ?_
 case' d103 => apply ms_if ?d113 ?d114 mss_nil
 case' d113 => apply PW.pt ?_
 case' d113 => apply mw_or ?d116 ?d117
 case' d116 => apply mt_not ?_
 case' d116 => apply mt_val ?d119 ?_
 case' d119 => apply me_CB call_instM fm_inst ?d120 ?d121 PyProof.Rows.boot_isinstance ?d122 ?_ ?_
 case d120 => exact q130
 case d121 => exact T.z_isinstance
 case' d122 => apply ma_2 ?d123 ?d124 ?_ ?_
 case d123 => exact (me_var (pvk 7 q125))
 case' d124 => apply me_C ?d125 ?_
 case' d125 => apply pe_bltnk (v := .ty "bool") ?d126 ?d127 ?_ ?_
 case d126 => exact q129
 case d127 => exact T.z_bool
 case' d117 => apply mw_or1 ?_
 case' d117 => apply mt_cmp ?d129 fm_ne ?d130 ?d131 ?_
 case d129 => exact (op_neK (hu151 hr))
 case d130 => exact (me_var (pvk 7 q125))
 case' d131 => apply me_cal ?d132 ?_ ?d133 ?d134 ?_ ?_
 case d132 => exact C__law_is_plan
 case d133 => exact q128
 case' d134 => apply ma_2 ?d135 ?d136 ?_ ?_
 case d135 => exact (me_var (pvk 1 q126))
 case d136 => exact (me_var (pvk 6 q127))
 case' d114 => apply mss_one ?_
 case' d114 => apply ms_ret me_bl
 case' d15 => apply mss_one ?_
 case' d15 => apply ms_ret me_bl
 all_goals (try walk_at "late")
end
end K57
set_option Elab.async false
set_option linter.all false
set_option maxRecDepth 100000
set_option maxHeartbeats 4000000
namespace K57
open PySem L2
local macro_rules | `(tactic| walk_at "e") => `(tactic| (with_reducible first
  | refine e_seq ?_ | refine e_sqN ?_ | refine e_sqR ?_ | refine e_sqB ?_ | refine e_sqC ?_ | refine e_lqN ?_ | refine e_lqC ?_ | refine e_lqB ?_ | refine e_lqR ?_ | refine e_fqR ?_ | refine e_fqN ?_ | refine e_sif ?_ | refine e_asg ?_ | refine e_nm ?_ | refine e_ret ?_ | refine e_retN ?_ | refine e_drop ?_ | refine e_next ?_ | refine e_brk ?_ | refine e_cont ?_
  | refine e_c ?_ | refine e_op ?_ | refine e_un ?_ | refine e_cb ?_ | refine e_call ?_ | refine e_nil ?_ | refine e_cons ?_ | refine e_tV ?_ | refine e_eb ?_ | refine e_tAnd ?_ | refine e_tOr ?_ | refine e_tNot ?_ | refine e_and ?_ | refine e_or ?_ | refine e_not ?_ | refine e_ifE ?_ | refine e_chain ?_ | refine e_tTrue ?_
  | refine ite_t ?_ | refine ite_f ?_ | refine e_oNo ?_ | refine e_oSome ?_ | refine e_sl ?_ | refine e_comp ?_ | refine e_for ?_ | refine e_body ?_ | refine e_gnil ?_ | refine e_gcons ?_
  | (refine e_gtp ?h1 ?_; (case h1 => with_unfolding_all rfl))
  | (refine' e_var ?hv ?_; (case hv => with_unfolding_all rfl))
  | refine ite_nT ?_ | refine ite_nF ?_ | refine p_eqTT ?_ | refine p_eqTF ?_ | refine p_eqFT ?_ | refine p_eqFF ?_ | refine p_neTT ?_ | refine p_neTF ?_ | refine p_neFT ?_ | refine p_neFF ?_ | refine p_isTT ?_ | refine p_isTF ?_ | refine p_isFT ?_ | refine p_isFF ?_ | refine p_isNotTT ?_ | refine p_isNotTF ?_ | refine p_isNotFT ?_ | refine p_isNotFF ?_
  | refine p_addI ?_ | refine p_subI ?_ | refine p_ltI ?_ | refine p_leI ?_ | refine p_gtI ?_ | refine p_geI ?_ | refine p_ltS ?_ | refine p_eqI ?_ | refine p_neI ?_ | refine p_eqS ?_ | refine p_neS ?_ | refine p_eqB ?_ | refine p_neB ?_ | refine p_isN ?_ | refine p_isNotN ?_ | refine p_isB ?_ | refine p_isNotB ?_ | refine p_neg ?_ | refine p_abs ?_ | refine p_intI ?_ | refine p_intB ?_ | refine p_min ?_ | refine p_max ?_
  | refine p_lenL ?_ | refine p_lenT ?_ | refine p_lenC ?_ | refine p_slL ?_ | refine p_slC ?_ | refine p_slT ?_
  | (refine p_ixL ?h1 ?_; (case h1 => with_unfolding_all rfl))
  | (refine p_ixT ?h1 ?_; (case h1 => with_unfolding_all rfl))
  | (refine p_mulI ?h1 ?_; (case h1 => omega))
  | (refine p_mod ?h1 ?_; (case h1 => omega))
  | (refine p_div ?h1 ?_; (case h1 => omega))
  | (refine p_pow ?h1 ?_; (case h1 => decide))
  | refine pi_non_str ?_ | refine pi_non_int ?_ | refine pi_non_bool ?_ | refine pi_non_tuple ?_ | refine pi_non_list ?_ | refine pi_bl_str ?_ | refine pi_bl_int ?_ | refine pi_bl_bool ?_ | refine pi_bl_tuple ?_ | refine pi_bl_list ?_ | refine pi_int_str ?_ | refine pi_int_int ?_ | refine pi_int_bool ?_ | refine pi_int_tuple ?_ | refine pi_int_list ?_ | refine pi_str_str ?_ | refine pi_str_int ?_ | refine pi_str_bool ?_ | refine pi_str_tuple ?_ | refine pi_str_list ?_ | refine pi_tup_str ?_ | refine pi_tup_int ?_ | refine pi_tup_bool ?_ | refine pi_tup_tuple ?_ | refine pi_tup_list ?_ | refine pi_lst_str ?_ | refine pi_lst_int ?_ | refine pi_lst_bool ?_ | refine pi_lst_tuple ?_ | refine pi_lst_list ?_ | refine pi_scr_str ?_ | refine pi_scr_int ?_ | refine pi_scr_bool ?_ | refine pi_scr_tuple ?_ | refine pi_scr_list ?_ | refine pi_dct_str ?_ | refine pi_dct_int ?_ | refine pi_dct_bool ?_ | refine pi_dct_tuple ?_ | refine pi_dct_list ?_
  | (refine e_tup ⟨?h1, ?_⟩; (case h1 => decide))
  | refine e_tup ?_ | refine e_lst ?_ | refine e_lstH ?_))
local macro_rules | `(tactic| walk_at "es") => `(tactic| repeat (walk_at "e"))
def Is {a : Type} (y : a) (h : HpM) : a → HpM → Prop := fun d h' => d = y ∧ h' = h
theorem run_of {x : Option (M × HpM)} {y : M} {h : HpM} (e : Ens x (Is y h)) : x = some (y, h) := by obtain ⟨d, h', e, rfl, rfl⟩ := e; exact e
def numB : M → Bool
  | .int _ => true
  | _ => false
theorem number_run {k : Nat} {x : M} {h : HpM} (hx : Pu k x) : m_is_number [x] h = some (.bl (numB x), h) := by
  apply run_of
  refine e_fun rfl ?_
  unfold b_is_number
  cases x with
  | non => walk_at "es"; exact ⟨rfl, rfl⟩
  | bl _ => walk_at "es"; exact ⟨rfl, rfl⟩
  | int _ => walk_at "es"; exact ⟨rfl, rfl⟩
  | tup _ => walk_at "es"; exact ⟨rfl, rfl⟩
  | lst _ => walk_at "es"; exact ⟨rfl, rfl⟩
  | str _ => walk_at "es"; exact ⟨rfl, rfl⟩
  | dct _ _ => cases k <;> cases hx
  | ref _ => cases k <;> cases hx
  | scr _ => cases k <;> cases hx
  | ty _ => cases k <;> cases hx
theorem numB_int {x : M} (h : numB x = true) : ∃ i, x = .int i := by cases x <;> first | exact ⟨_, rfl⟩ | cases h
theorem p_hd {R : M → Prop} {h : HpM} {x : M} {xs : List M} (q : R x) : Enp (ixM (.tup (x :: xs)) (.int 0) h) R := by
  refine ⟨x, ?_, q⟩
  show atI (x :: xs) ((0 : Nat) : Int) = _
  rw [atI_nat (j := 0) rfl]
theorem len_ok {xs : List M} {P : Prop} (h : xs.length ≤ 16777216) (q : P) : xs.length ≤ 16777216 ∧ P := ⟨h, q⟩
theorem p_notInW {R : M → Prop} {h : HpM} {x : M} {k : Nat} (ss : List Str) {y : M} (hy : y = .tup (ss.map M.str)) (hx : Pu k x) (q : R (.bl (!inTx ss x))) : Enp (opNotIn x y h) R := by subst hy; exact p_notInT hx q
theorem ite_T {A B : Prop} {c : Bool} (e : c = true) (q : A) : if c = true then A else B := by rw [if_pos e]; exact q
theorem ite_F {A B : Prop} {c : Bool} (e : c = false) (q : B) : if c = true then A else B := by rw [if_neg (by rw [e]; decide)]; exact q
def snumB (n : Int) : M → Bool
  | .int i => decide (0 ≤ i) && decide (i < n)
  | _ => false
theorem snum_run {k : Nat} {x : M} {n : Int} {h : HpM} (hx : Pu k x) : m_is_spot_number [x, .int n] h = some (.bl (snumB n x), h) := by
  apply run_of
  refine e_fun rfl ?_
  unfold b_is_spot_number
  walk_at "es"
  refine ens_eq (number_run hx) ?_
  walk_at "es"
  refine ite_b (fun q => ?_) (fun q => ?_)
  · obtain ⟨i, rfl⟩ := numB_int q
    walk_at "es"
    refine ite_b (fun q => ?_) (fun q => ?_)
    · walk_at "es"; exact ⟨by simp [snumB, q], rfl⟩
    · walk_at "es"; exact ⟨by simp [snumB, q], rfl⟩
  · refine ⟨?_, rfl⟩
    cases x <;> first | rfl | cases q
section
variable {R : M → Prop} {h : HpM}
theorem toDs_ints : ∀ (S : List Int), toDs h (S.map M.int) = some (S.map D.int)
  | [] => rfl
  | s :: S => by
    show (toDB (lookD h 20) (M.int s)).bind (fun d => (toDBs (lookD h 20) (S.map M.int)).map (d :: ·)) = _
    rw [show toDBs (lookD h 20) (S.map M.int) = some (S.map D.int) from toDs_ints S]; rfl
theorem deeps_ints : ∀ (S : List Int), D.deeps (S.map D.int) = 0
  | [] => rfl
  | s :: S => by rw [List.map_cons, D.deeps, deeps_ints S]; rfl
theorem any_int {i : Int} : ∀ {S : List Int}, ((S.map D.int).any fun e => deq e (.int i)) = decide (i ∈ S)
  | [] => by simp
  | s :: S => by
    rw [List.map_cons, List.any_cons, any_int (S := S)]
    show ((s == i) || decide (i ∈ S)) = _
    rw [Bool.eq_iff_iff, Bool.or_eq_true, beq_iff_eq, decide_eq_true_iff, decide_eq_true_iff, List.mem_cons, eq_comm]
theorem anyD_int {i : Int} {S : List Int} {f : Bool → M} : anyD (.int i) (S.map M.int) h f = some (f (decide (i ∈ S))) := by
  unfold anyD
  rw [toDs_ints, Option.bind_some]
  show (if D.deeps (S.map D.int) ≤ 150 then some (f ((S.map D.int).any fun e => deq e (.int i))) else none) = _
  rw [if_pos (by rw [deeps_ints]; omega), any_int]
theorem p_inIT {i : Int} {S : List Int} (q : R (.bl (decide (i ∈ S)))) : Enp (opIn (.int i) (.tup (S.map M.int)) h) R := ⟨_, anyD_int, q⟩
theorem p_inIL {i : Int} {S : List Int} (q : R (.bl (decide (i ∈ S)))) : Enp (opIn (.int i) (.lst (S.map M.int)) h) R := ⟨_, anyD_int, q⟩
theorem p_notInIT {i : Int} {S : List Int} (q : R (.bl (!decide (i ∈ S)))) : Enp (opNotIn (.int i) (.tup (S.map M.int)) h) R := ⟨.bl (!decide (i ∈ S)), anyD_int (f := fun b => .bl (!b)), q⟩
theorem p_notInIL {i : Int} {S : List Int} (q : R (.bl (!decide (i ∈ S)))) : Enp (opNotIn (.int i) (.lst (S.map M.int)) h) R := ⟨.bl (!decide (i ∈ S)), anyD_int (f := fun b => .bl (!b)), q⟩
theorem p_eq2I {a b c d : Int} (q : R (.bl ((a == c) && ((b == d) && true)))) : Enp (opEq (.tup [.int a, .int b]) (.tup [.int c, .int d]) h) R := ⟨_, rfl, q⟩
end
def mv (p : Str × Int) : M := .tup [.str p.1, .int p.2]
def mvD (p : Str × Int) : D := .tup [.str p.1, .int p.2]
def mvIs (x y : M) (p : Str × Int) : Bool := (match x with | .str w => p.1 == w | _ => false) && (match y with | .int k => p.2 == k | _ => false)
theorem toDs_mv {h : HpM} : ∀ (ms : List (Str × Int)), toDs h (ms.map mv) = some (ms.map mvD)
  | [] => rfl
  | s :: S => by
    show (toDB (lookD h 20) (mv s)).bind (fun d => (toDBs (lookD h 20) (S.map mv)).map (d :: ·)) = _
    rw [show toDBs (lookD h 20) (S.map mv) = some (S.map mvD) from toDs_mv S]; rfl
theorem deeps_mv : ∀ (ms : List (Str × Int)), D.deeps (ms.map mvD) ≤ 1
  | [] => Nat.zero_le _
  | s :: S => by
    rw [List.map_cons, D.deeps]
    exact Nat.max_le.mpr ⟨by show D.deeps [D.str s.1, .int s.2] + 1 ≤ 1; simp [D.deeps, D.deep], deeps_mv S⟩
theorem p_notInMv {R : M → Prop} {h : HpM} {ms : List (Str × Int)} {k k' : Nat} {x y : M} (hx : Pu k x) (hy : Pu k' y) (hb : ∀ b, y ≠ .bl b) (q : R (.bl (!ms.any (mvIs x y)))) : Enp (opNotIn (.tup [x, y]) (.lst (ms.map mv)) h) R := by
  obtain ⟨dx, ex, _, sx⟩ := hx.toD h
  obtain ⟨dy, ey, _, sy⟩ := hy.toD h
  have e : anyD (.tup [x, y]) (ms.map mv) h (fun b => .bl (!b)) = some (.bl (!ms.any (mvIs x y))) := by
    unfold anyD
    rw [toDs_mv, Option.bind_some]
    have et : toD h (.tup [x, y]) = some (.tup [dx, dy]) := by
      show (toDBs (lookD h 20) [x, y]).map D.tup = _
      have : toDBs (lookD h 20) [x, y] = some [dx, dy] := by
        show (toDB (lookD h 20) x).bind (fun d => ((toDB (lookD h 20) y).bind fun d' => (some ([] : List D)).map (d' :: ·)).map (d :: ·)) = _
        rw [show toDB (lookD h 20) x = some dx from ex, show toDB (lookD h 20) y = some dy from ey]; rfl
      rw [this]; rfl
    rw [et, Option.bind_some, if_pos (Nat.le_trans (deeps_mv ms) (by decide))]
    rw [List.any_map]
    suffices z : ((fun e => deq e (.tup [dx, dy])) ∘ mvD) = mvIs x y by rw [z]
    funext p
    show (deq (.str p.1) dx && (deq (.int p.2) dy && true)) = mvIs x y p
    rw [Bool.and_true]
    unfold mvIs
    congr 1
    · cases x with
      | non => cases (show dx = _ from sx); rfl
      | bl _ => cases (show dx = _ from sx); rfl
      | int _ => cases (show dx = _ from sx); rfl
      | str _ => cases (show dx = _ from sx); rfl
      | tup _ => obtain ⟨ds, rfl⟩ := sx; rfl
      | lst _ => obtain ⟨ds, rfl⟩ := sx; rfl
      | _ => exact sx.elim
    · cases y with
      | non => cases (show dy = _ from sy); rfl
      | bl b => exact absurd rfl (hb b)
      | int _ => cases (show dy = _ from sy); rfl
      | str _ => cases (show dy = _ from sy); rfl
      | tup _ => obtain ⟨ds, rfl⟩ := sy; rfl
      | lst _ => obtain ⟨ds, rfl⟩ := sy; rfl
      | _ => exact sy.elim
  exact ⟨_, e, q⟩
theorem any_mvIs {ms : List (Str × Int)} {x y : M} : ms.any (mvIs x y) = true ↔ ∃ w k, x = .str w ∧ y = .int k ∧ (w, k) ∈ ms := by
  rw [List.any_eq_true]
  constructor
  · rintro ⟨⟨w, k⟩, hp, e⟩
    unfold mvIs at e
    rw [Bool.and_eq_true] at e
    cases x with
    | str w' =>
      cases y with
      | int k' =>
        have e1 : w = w' := eq_of_beq e.1
        have e2 : k = k' := eq_of_beq e.2
        subst e1 e2
        exact ⟨w, k, rfl, rfl, hp⟩
      | _ => cases e.2
    | _ => cases e.1
  · rintro ⟨w, k, rfl, rfl, hp⟩
    refine ⟨(w, k), hp, ?_⟩
    unfold mvIs
    simp
abbrev Bow := Int × Int × M × M
def bowM (p : Bow) : M := .tup [.int p.1, .int p.2.1, p.2.2.1, p.2.2.2]
def bA (bs : List Bow) (k : Int) : Int := (bs.getD k.toNat (0, 0, .non, .non)).1
def bB (bs : List Bow) (k : Int) : Int := (bs.getD k.toNat (0, 0, .non, .non)).2.1
def stp (n : Nat) (bs : List Bow) (S C : List Int) (w : Str) (k : Int) : Option (List Int × List Int) :=
  if w = "lay" then (if 0 ≤ k ∧ k < n ∧ k ∉ S then some (S ++ [k], C) else none)
  else if 0 ≤ k ∧ k < bs.length ∧ k ∉ C then
    (if w = "meet" then (if bA bs k ∈ S ∧ bB bs k ∈ S then some (S, C ++ [k]) else none)
    else if w = "forth" then (if bA bs k ∈ S ∧ bB bs k ∉ S then some (S ++ [bB bs k], C ++ [k]) else none)
    else if w = "back" then (if bB bs k ∈ S ∧ bA bs k ∉ S then some (S ++ [bA bs k], C ++ [k]) else none)
    else none)
  else none
def mvOf : M → Option (Str × Int)
  | .tup [.str w, .int k] => some (w, k)
  | _ => none
def runB (n : Nat) (bs : List Bow) (S C : List Int) : List M → Bool
  | [] => (S.length == n) && (C.length == bs.length)
  | m :: ms => match mvOf m with
    | some p => match stp n bs S C p.1 p.2 with
      | some q => runB n bs q.1 q.2 ms
      | none => false
    | none => false
def sel (w : Str) (p : Nat → Bool) (m : Nat) : List (Str × Int) := ((List.range m).filter p).map fun (k : Nat) => (w, (k : Int))
theorem sel_succ {w : Str} {p : Nat → Bool} {m : Nat} : sel w p (m + 1) = sel w p m ++ if p m = true then [(w, (m : Int))] else [] := by
  unfold sel
  rw [List.range_succ, List.filter_append, List.map_append]
  congr 1
  by_cases h : p m = true
  · simp [h]
  · simp [h]
theorem sel_len {w : Str} {p : Nat → Bool} {m : Nat} : (sel w p m).length ≤ m := by
  unfold sel
  rw [List.length_map]
  exact Nat.le_trans (List.length_filter_le _ _) (by simp)
theorem mem_sel {w w' : Str} {p : Nat → Bool} {m : Nat} {k : Int} : (w', k) ∈ sel w p m ↔ w' = w ∧ ∃ j : Nat, (j : Int) = k ∧ j < m ∧ p j = true := by
  unfold sel
  simp only [List.mem_map, List.mem_filter, List.mem_range, Prod.mk.injEq]
  constructor
  · rintro ⟨j, ⟨h1, h2⟩, rfl, rfl⟩; exact ⟨rfl, j, rfl, h1, h2⟩
  · rintro ⟨rfl, j, rfl, h1, h2⟩; exact ⟨j, ⟨h1, h2⟩, rfl, rfl⟩
def pBack (bs : List Bow) (S C : List Int) (k : Nat) : Bool := !decide ((k : Int) ∈ C) && (!decide (bA bs k ∈ S) && decide (bB bs k ∈ S))
def pForth (bs : List Bow) (S C : List Int) (k : Nat) : Bool := !decide ((k : Int) ∈ C) && (decide (bA bs k ∈ S) && !decide (bB bs k ∈ S))
def pMeet (bs : List Bow) (S C : List Int) (k : Nat) : Bool := !decide ((k : Int) ∈ C) && (decide (bA bs k ∈ S) && decide (bB bs k ∈ S))
def pLay (S : List Int) (k : Nat) : Bool := !decide ((k : Int) ∈ S)
def movesL (n : Nat) (bs : List Bow) (S C : List Int) : List (Str × Int) :=
  ((sel "back" (pBack bs S C) bs.length ++ sel "forth" (pForth bs S C) bs.length) ++ sel "lay" (pLay S) n) ++ sel "meet" (pMeet bs S C) bs.length
theorem w1 : ("back" : Str) ≠ "lay" := by decide +kernel
theorem w2 : ("back" : Str) ≠ "meet" := by decide +kernel
theorem w3 : ("back" : Str) ≠ "forth" := by decide +kernel
theorem w4 : ("forth" : Str) ≠ "lay" := by decide +kernel
theorem w5 : ("forth" : Str) ≠ "meet" := by decide +kernel
theorem w6 : ("meet" : Str) ≠ "lay" := by decide +kernel
theorem stp_lay {n : Nat} {bs : List Bow} {S C : List Int} {k : Int} : stp n bs S C "lay" k = if 0 ≤ k ∧ k < n ∧ k ∉ S then some (S ++ [k], C) else none := by
  unfold stp; rw [if_pos rfl]
theorem stp_meet {n : Nat} {bs : List Bow} {S C : List Int} {k : Int} : stp n bs S C "meet" k = if 0 ≤ k ∧ k < bs.length ∧ k ∉ C then (if bA bs k ∈ S ∧ bB bs k ∈ S then some (S, C ++ [k]) else none) else none := by
  unfold stp; rw [if_neg w6]; simp only [if_pos]
theorem stp_forth {n : Nat} {bs : List Bow} {S C : List Int} {k : Int} : stp n bs S C "forth" k = if 0 ≤ k ∧ k < bs.length ∧ k ∉ C then (if bA bs k ∈ S ∧ bB bs k ∉ S then some (S ++ [bB bs k], C ++ [k]) else none) else none := by
  unfold stp; rw [if_neg w4]; simp only [if_neg w5, if_pos]
theorem stp_back {n : Nat} {bs : List Bow} {S C : List Int} {k : Int} : stp n bs S C "back" k = if 0 ≤ k ∧ k < bs.length ∧ k ∉ C then (if bB bs k ∈ S ∧ bA bs k ∉ S then some (S ++ [bA bs k], C ++ [k]) else none) else none := by
  unfold stp; rw [if_neg w1]; simp only [if_neg w2, if_neg w3, if_pos]
theorem stp_other {n : Nat} {bs : List Bow} {S C : List Int} {w : Str} {k : Int} (h1 : w ≠ "lay") (h2 : w ≠ "meet") (h3 : w ≠ "forth") (h4 : w ≠ "back") : stp n bs S C w k = none := by
  unfold stp; rw [if_neg h1]; simp only [if_neg h2, if_neg h3, if_neg h4]; split <;> rfl
theorem mem_moves {n : Nat} {bs : List Bow} {S C : List Int} {w : Str} {k : Int} : (w, k) ∈ movesL n bs S C ↔ (stp n bs S C w k).isSome = true := by
  have nat : ∀ {m : Nat} {k : Int} {P : Nat → Bool} {Q : Prop}, (∀ j : Nat, (j : Int) = k → (P j = true ↔ Q)) → ((∃ j : Nat, (j : Int) = k ∧ j < m ∧ P j = true) ↔ 0 ≤ k ∧ k < m ∧ Q) := by
    intro m k P Q hq
    constructor
    · rintro ⟨j, rfl, h1, h2⟩; exact ⟨by omega, by omega, (hq j rfl).mp h2⟩
    · rintro ⟨h0, h1, h2⟩
      obtain ⟨j, rfl⟩ := Int.eq_ofNat_of_zero_le h0
      exact ⟨j, rfl, by omega, (hq j rfl).mpr h2⟩
  unfold movesL
  rw [List.mem_append, List.mem_append, List.mem_append, mem_sel, mem_sel, mem_sel, mem_sel]
  rw [nat (Q := k ∉ C ∧ bB bs k ∈ S ∧ bA bs k ∉ S) (fun j hj => by subst hj; simp [pBack]; intro _; exact And.comm), nat (Q := k ∉ C ∧ bA bs k ∈ S ∧ bB bs k ∉ S) (fun j hj => by subst hj; simp [pForth]), nat (Q := k ∉ S) (fun j hj => by subst hj; simp [pLay]), nat (Q := k ∉ C ∧ bA bs k ∈ S ∧ bB bs k ∈ S) (fun j hj => by subst hj; simp [pMeet])]
  by_cases h1 : w = "lay"
  · subst h1
    rw [stp_lay]
    simp only [w1.symm, w4.symm, w6.symm, false_and, false_or, or_false, true_and]
    split
    · rename_i q; simp [q]
    · rename_i q; simp [q]
  by_cases h2 : w = "meet"
  · subst h2
    rw [stp_meet]
    simp only [w2.symm, w5.symm, w6, false_and, false_or, or_false, true_and]
    split
    · rename_i q
      split
      · rename_i q2; simp [q, q2]
      · rename_i q2; simp only [Option.isSome_none, Bool.false_eq_true, iff_false]; rintro ⟨_, _, _, a⟩; exact q2 a
    · rename_i q; simp only [Option.isSome_none, Bool.false_eq_true, iff_false]; rintro ⟨a, b, c, _⟩; exact q ⟨a, b, c⟩
  by_cases h3 : w = "forth"
  · subst h3
    rw [stp_forth]
    simp only [w3.symm, w4, w5, false_and, false_or, or_false, true_and]
    split
    · rename_i q
      split
      · rename_i q2; simp [q, q2]
      · rename_i q2; simp only [Option.isSome_none, Bool.false_eq_true, iff_false]; rintro ⟨_, _, _, a⟩; exact q2 a
    · rename_i q; simp only [Option.isSome_none, Bool.false_eq_true, iff_false]; rintro ⟨a, b, c, _⟩; exact q ⟨a, b, c⟩
  by_cases h4 : w = "back"
  · subst h4
    rw [stp_back]
    simp only [w1, w2, w3, false_and, false_or, or_false, true_and]
    split
    · rename_i q
      split
      · rename_i q2; simp [q, q2]
      · rename_i q2; simp only [Option.isSome_none, Bool.false_eq_true, iff_false]; rintro ⟨_, _, _, a⟩; exact q2 a
    · rename_i q; simp only [Option.isSome_none, Bool.false_eq_true, iff_false]; rintro ⟨a, b, c, _⟩; exact q ⟨a, b, c⟩
  · rw [stp_other h1 h2 h3 h4]
    simp [h1, h2, h3, h4]
theorem e_loopN {xs : List M} {bd : M → FS} {ρ : EnvM} {h : HpM} {S : Out → HpM → Prop} (q : S (.nx ρ) h) : Ens (mLoop xs none bd [] ρ h) S := by
  unfold mLoop
  rw [if_pos (show okS xs none h from trivial)]
  exact .ret q
theorem e_loopC {xs : List M} {bd : M → FS} {x : M} {r : List M} {ρ : EnvM} {h : HpM} {S : Out → HpM → Prop} (q : Ens (bd x ρ h) (LQ (fun ρ' h' => Ens (mLoop xs none bd r ρ' h') S) S)) : Ens (mLoop xs none bd (x :: r) ρ h) S := by
  unfold mLoop
  rw [if_pos (show okS xs none h from trivial)]
  refine .bnd (q.mono fun o h1 q => ?_)
  cases o with
  | nx ρ' => exact q
  | ct ρ' => exact q
  | bk ρ' => exact .ret q
  | rt d => exact .ret q
theorem e_oInt {i : Int} {ρ : EnvM} {h : HpM} {O : Option Int → HpM → Prop} (q : O (some i) h) : Ens (oSome (mC (.int i)) ρ h) O := ⟨_, _, rfl, q⟩
def BoxAt (h : HpM) (p : Nat) (c : Int) : Prop := ∃ a b n, h[p]? = some (.lst [.int a, .int b, .int n]) ∧ 0 ≤ a ∧ 0 ≤ b ∧ b < 4000000000000000000 ∧ 0 ≤ n ∧ n ≤ c
theorem BoxAt.mono {h : HpM} {p : Nat} {c c' : Int} (b : BoxAt h p c) (hc : c ≤ c') : BoxAt h p c' := by
  obtain ⟨a, b, n, h1, h2, h3, h4, h5, h6⟩ := b
  exact ⟨a, b, n, h1, h2, h3, h4, h5, by omega⟩
theorem BoxAt.lt {h : HpM} {p : Nat} {c : Int} (b : BoxAt h p c) : p < h.length := by
  obtain ⟨a, b, n, h1, _⟩ := b
  exact (List.getElem?_eq_some_iff.mp h1).1
theorem BoxAt.app {h : HpM} {p : Nat} {c : Int} {o : List MO} (b : BoxAt h p c) : BoxAt (h ++ o) p c := by
  obtain ⟨a, b', n, h1, r⟩ := id b
  exact ⟨a, b', n, by rw [List.getElem?_append_left b.lt]; exact h1, r⟩
theorem take_ok {h : HpM} {p : Nat} {c many : Int} {R : M → HpM → Prop} (hh : BoxAt h p c) (m1 : 0 < many) (m2 : many < 1073741824) (m3 : c < 1000000000)
    (k : ∀ r h', 0 ≤ r → r < many → BoxAt h' p (c + 1) → Kp p h h' → R (.int r) h') : Ens (m__law_take [.ref p, .int many] h) R := by
  obtain ⟨a, b, n, e, ha, hb, hb2, hn, hnc⟩ := hh
  refine e_fun rfl ?_
  unfold b__law_take
  walk_at "es"
  refine p_ixR e rfl ?_
  walk_at "es"
  refine ite_b (fun _ => ?_) (fun _ => ?_)
  · walk_at "es"
    refine p_ixR e rfl ?_
    walk_at "es"
    refine p_ixR e rfl ?_
    walk_at "es"
    refine e_put (k := p) (j := 0) rfl rfl e rfl fun h1 e1 k1 => ?_
    walk_at "es"
    exact k _ _ (Int.emod_nonneg _ (by omega)) (Int.emod_lt_of_pos _ m1) ⟨_, b, n, e1, Int.ediv_nonneg ha (by omega), hb, hb2, hn, by omega⟩ k1
  · walk_at "es"
    refine p_ixR e rfl ?_
    walk_at "es"
    refine e_put (k := p) (j := 2) rfl rfl e rfl fun h1 e1 k1 => ?_
    replace e1 : h1[p]? = some (.lst [.int a, .int b, .int (n + 1)]) := e1
    walk_at "es"
    refine p_ixR e1 rfl ?_
    walk_at "es"
    refine p_ixR e1 rfl ?_
    walk_at "es"
    refine p_ixR e1 rfl ?_
    walk_at "es"
    have hm := Int.emod_lt_of_pos ((b + 3) * (48271 + (n + 1) * (n + 1))) (b := 2305843009213693921) (by decide)
    have hm0 := Int.emod_nonneg ((b + 3) * (48271 + (n + 1) * (n + 1))) (b := 2305843009213693921) (by decide)
    generalize (b + 3) * (48271 + (n + 1) * (n + 1)) % 2305843009213693921 = m at hm hm0 ⊢
    walk_at "es"
    refine p_ixR e1 rfl ?_
    walk_at "es"
    have hq := Int.emod_lt_of_pos (m * (m % 1000003 + (n + 1) * 69621 + 11)) (b := 2305843009213693907) (by decide)
    have hq0 := Int.emod_nonneg (m * (m % 1000003 + (n + 1) * 69621 + 11)) (b := 2305843009213693907) (by decide)
    generalize m * (m % 1000003 + (n + 1) * 69621 + 11) % 2305843009213693907 = m' at hq hq0 ⊢
    walk_at "es"
    exact k _ _ (Int.emod_nonneg _ (by omega)) (Int.emod_lt_of_pos _ m1) ⟨a, b, n + 1, e1, ha, hb, hb2, by omega, by omega⟩ k1
def Hp3 (h : HpM) : Prop := ∀ o ∈ h, ∃ xs : List Int, o = .lst (xs.map M.int)
def In (g : HpM) (p : Nat) (c : Int) : Prop := BoxAt g p c ∧ Hp3 g
theorem In.mono {g : HpM} {p : Nat} {c c' : Int} (b : In g p c) (hc : c ≤ c') : In g p c' := ⟨b.1.mono hc, b.2⟩
theorem kp_app {g t h' : HpM} {p : Nat} {c : Int} (hp : p < g.length) (hg : Hp3 g) (kp : Kp p (g ++ t) h') (hb : BoxAt h' p c) : ∃ g', h' = g' ++ t ∧ g'.length = g.length ∧ In g' p c := by
  have hl : (h'.take g.length).length = g.length := by rw [List.length_take, kp.1, List.length_append]; omega
  have e : h' = h'.take g.length ++ t := by
    apply List.ext_getElem?
    intro i
    by_cases hi : i < g.length
    · rw [List.getElem?_append_left (by omega), List.getElem?_take_of_lt hi]
    · rw [List.getElem?_append_right (by omega), hl, kp.2 i (by omega), List.getElem?_append_right (by omega)]
  refine ⟨h'.take g.length, e, hl, ?_, ?_⟩
  · obtain ⟨a, b, n, h1, r⟩ := hb
    exact ⟨a, b, n, by rw [List.getElem?_take_of_lt hp]; exact h1, r⟩
  · intro o ho
    obtain ⟨i, hi⟩ := List.getElem?_of_mem ho
    have hi' : i < g.length := by rw [← hl]; exact (List.getElem?_eq_some_iff.mp hi).1
    rw [List.getElem?_take_of_lt hi'] at hi
    by_cases hq : i = p
    · subst hq
      obtain ⟨a, b, n, h1, _⟩ := hb
      rw [h1] at hi
      cases hi
      exact ⟨[a, b, n], rfl⟩
    · rw [kp.2 i hq, List.getElem?_append_left hi'] at hi
      exact hg o (List.mem_of_getElem? hi)
theorem take_in {g t : HpM} {p : Nat} {c many : Int} {R : M → HpM → Prop} (hh : In g p c) (m1 : 0 < many) (m2 : many < 1073741824) (m3 : c < 1000000000)
    (k : ∀ r g', 0 ≤ r → r < many → In g' p (c + 1) → g'.length = g.length → R (.int r) (g' ++ t)) : Ens (m__law_take [.ref p, .int many] (g ++ t)) R :=
  take_ok hh.1.app m1 m2 m3 fun r h' h0 h1 hb kp => by
    obtain ⟨g', rfl, hl, hi⟩ := kp_app hh.1.lt hh.2 kp hb
    exact k r g' h0 h1 hi hl
theorem p_any {R : M → Prop} {h : HpM} {xs : List M} {r : Int} (h0 : 0 ≤ r) (h1 : r < xs.length) (q : ∀ x ∈ xs, R x) : Enp (ixM (.lst xs) (.int r) h) R := by
  obtain ⟨j, rfl⟩ := Int.eq_ofNat_of_zero_le h0
  have hj : j < xs.length := by omega
  refine ⟨xs[j], ?_, q _ (List.getElem_mem hj)⟩
  show atI xs (j : Int) = _
  rw [atI_nat (List.getElem?_eq_getElem hj)]
theorem pu3 {k : Nat} {a b c : M} (ha : Pu k a) (hb : Pu k b) (hc : Pu k c) : Pu (k + 1) (.tup [a, b, c]) := Pu.tup (by simp) (by intro y hy; simp at hy; rcases hy with rfl | rfl | rfl <;> assumption)
theorem pu1 {k : Nat} {a : M} (ha : Pu k a) : Pu (k + 1) (.tup [a]) := Pu.tup (by simp) (by intro y hy; simp at hy; cases hy; assumption)
theorem pu2 {k : Nat} {a b : M} (ha : Pu k a) (hb : Pu k b) : Pu (k + 1) (.tup [a, b]) := Pu.tup (by simp) (by intro y hy; simp at hy; rcases hy with rfl | rfl <;> assumption)
theorem pu4 {k : Nat} {a b c d : M} (ha : Pu k a) (hb : Pu k b) (hc : Pu k c) (hd : Pu k d) : Pu (k + 1) (.tup [a, b, c, d]) := Pu.tup (by simp) (by intro y hy; simp at hy; rcases hy with rfl | rfl | rfl | rfl <;> assumption)
theorem pu_res : ∀ {k : Nat} {x : M} (f : Nat → Option M), Pu k x → resB f x = some x
  | k, .non, f, _ => rfl
  | k, .bl _, f, _ => rfl
  | k, .int _, f, _ => rfl
  | k, .str _, f, _ => rfl
  | 0, .tup _, f, p => by cases p
  | 0, .lst _, f, p => by cases p
  | k + 1, .tup xs, f, p => by
    have hs : ∀ ys : List M, (∀ y ∈ ys, Pu k y) → resBs f ys = some ys := by
      intro ys
      induction ys with
      | nil => exact fun _ => rfl
      | cons y ys ih =>
        intro hy
        unfold resBs
        rw [pu_res f (hy y List.mem_cons_self), Option.bind_some, ih fun z hz => hy z (List.mem_cons_of_mem _ hz)]; rfl
    show (resBs f xs).map M.tup = _
    rw [hs xs p.un]; rfl
  | k + 1, .lst xs, f, p => by
    have hs : ∀ ys : List M, (∀ y ∈ ys, Pu k y) → resBs f ys = some ys := by
      intro ys
      induction ys with
      | nil => exact fun _ => rfl
      | cons y ys ih =>
        intro hy
        unfold resBs
        rw [pu_res f (hy y List.mem_cons_self), Option.bind_some, ih fun z hz => hy z (List.mem_cons_of_mem _ hz)]; rfl
    show (resBs f xs).map M.lst = _
    rw [hs xs p.unL]; rfl
  | 0, .dct _ _, f, p => by cases p
  | 0, .ref _, f, p => by cases p
  | 0, .scr _, f, p => by cases p
  | 0, .ty _, f, p => by cases p
  | k + 1, .dct _ _, f, p => by cases p
  | k + 1, .ref _, f, p => by cases p
  | k + 1, .scr _, f, p => by cases p
  | k + 1, .ty _, f, p => by cases p
theorem res_ints {f : Nat → Option M} : ∀ (is : List Int), resBs f (is.map M.int) = some (is.map M.int)
  | [] => rfl
  | i :: is => by
    show (resB f (M.int i)).bind (fun y => (resBs f (is.map M.int)).map (y :: ·)) = _
    rw [res_ints is]; rfl
theorem hp3_res {f : Nat → Option M} : ∀ {g : HpM}, Hp3 g → resOs f g = some g
  | [], _ => rfl
  | o :: g, h => by
    obtain ⟨is, rfl⟩ := h o List.mem_cons_self
    show ((resBs f (is.map M.int)).map MO.lst).bind (fun q => (resOs f g).map (q :: ·)) = _
    rw [res_ints, hp3_res (g := g) fun o ho => h o (List.mem_cons_of_mem _ ho)]; rfl
theorem e_shut {f : FF} {ds : List M} {g : HpM} {R : M → HpM → Prop} (q : Ens (f ds g) fun d h1 => ∃ g' t k, h1 = g' ++ t ∧ g'.length = g.length ∧ Hp3 g' ∧ Pu k d ∧ R d g') : Ens (mSeal f ds g) R :=
  .bnd (q.mono fun d h1 q => by
    obtain ⟨g', t, k, rfl, hl, h3, hp, r⟩ := q
    refine ⟨d, g', ?_, r⟩
    unfold shut
    by_cases hq : (g' ++ t).length = g.length
    · rw [if_pos hq]
      have : t = [] := by
        rw [List.length_append, hl] at hq
        exact List.eq_nil_of_length_eq_zero (by omega)
      rw [this, List.append_nil]
    · rw [if_neg hq, pu_res _ hp, Option.bind_some, ← hl, List.take_left, hp3_res h3]; rfl)
theorem e_append {k : Nat} {h : HpM} {xs : List M} {y : M} {R : M → HpM → Prop} (e : h[k]? = some (.lst xs)) (hl : xs.length < 16777216) (q : R .non (h.set k (.lst (xs ++ [y])))) : Ens (mAppend (.ref k) [y] h) R := ⟨.non, _, by unfold mAppend onL; simp only [e]; rw [if_pos hl]; rfl, q⟩
theorem isL_at {k : Nat} {h : HpM} {xs : List M} (e : h[k]? = some (.lst xs)) : isL (.ref k) h = true := by unfold isL seqL; simp only [e]; rfl
theorem seqL_at {k : Nat} {h : HpM} {xs : List M} (e : h[k]? = some (.lst xs)) : seqL h (.ref k) = some xs := by unfold seqL; simp only [e]
theorem p_l {R : M → Prop} {h : HpM} {xs : List M} {j : Nat} {x : M} (e : xs[j]? = some x) (q : R x) : Enp (ixM (.lst xs) (.int (j : Int)) h) R := ⟨x, by show atI xs (j : Int) = _; rw [atI_nat e], q⟩
theorem mem_all {P : M → Bool} {xs : List M} (h : xs.all P = true) {x : M} (hx : x ∈ xs) : P x = true := by rw [List.all_eq_true] at h; exact h x hx
theorem cut_mem {xs : List M} {lo hi : Option Int} {x : M} (h : x ∈ cutM xs lo hi) : x ∈ xs := by unfold cutM at h; exact List.mem_of_mem_drop (List.mem_of_mem_take h)
theorem cut_len {xs : List M} {lo hi : Option Int} : (cutM xs lo hi).length ≤ xs.length := by unfold cutM; rw [List.length_take, List.length_drop]; omega
theorem isL_last {g : HpM} {xs : List M} : isL (.ref g.length) (g ++ [.lst xs]) = true := isL_at (xs := xs) (by simp)
theorem at1 {g : HpM} {o : MO} {i : Nat} (hi : i = g.length) : (g ++ [o])[i]? = some o := by subst hi; simp
theorem set1 {g : HpM} {o o' : MO} {i : Nat} (hi : i = g.length) : (g ++ [o]).set i o' = g ++ [o'] := by subst hi; simp
theorem p_tupR {R : M → Prop} {h : HpM} {k : Nat} {xs : List M} (e : h[k]? = some (.lst xs)) (q : R (.tup xs)) : Enp (bTuple [.ref k] h) R := ⟨_, by
  show (seqL h (.ref k)).map M.tup = _
  rw [seqL_at e]; rfl, q⟩
theorem p_listT {R : M → Prop} {h : HpM} {xs : List M} (q : R (.lst xs)) : Enp (bList [.tup xs] h) R := ⟨_, rfl, q⟩
theorem p_tn {R : M → Prop} {h : HpM} {xs : List M} {j : Nat} {x : M} (e : xs[j]? = some x) (q : R x) : Enp (ixM (.tup xs) (.int (j : Int)) h) R := ⟨x, by show atI xs (j : Int) = _; rw [atI_nat e], q⟩
theorem p_t1 {R : M → Prop} {h : HpM} {a b : M} {ps : List M} (q : R b) : Enp (ixM (.tup (a :: b :: ps)) (.int 1) h) R := p_tn (j := 1) rfl q
local macro_rules | `(tactic| walk_at "f") => `(tactic| repeat (first | (with_reducible refine e_oInt ?_) | (with_reducible refine p_l0 ?_) | (with_reducible refine p_l1 ?_) | (with_reducible refine p_l2 ?_) | (with_reducible refine p_l3 ?_) | walk_at "e" | (with_reducible refine len_ok (by simp) ?_) | (with_reducible refine ⟨_, rfl, ?_⟩)))
def HpP (h : HpM) : Prop := ∀ o ∈ h, ∃ (xs : List M) (k : Nat), o = .lst xs ∧ ∀ y ∈ xs, Pu k y
theorem Hp3.p {h : HpM} (q : Hp3 h) : HpP h := fun o ho => by
  obtain ⟨xs, rfl⟩ := q o ho
  refine ⟨_, 0, rfl, fun y hy => ?_⟩
  obtain ⟨i, _, rfl⟩ := List.mem_map.mp hy
  exact (rfl : pureB 0 (.int i) = true)
theorem pus_res {k : Nat} (f : Nat → Option M) : ∀ {xs : List M}, (∀ y ∈ xs, Pu k y) → resBs f xs = some xs
  | [], _ => rfl
  | y :: ys, hy => by
    unfold resBs
    rw [pu_res f (hy y List.mem_cons_self), Option.bind_some, pus_res f fun z hz => hy z (List.mem_cons_of_mem _ hz)]; rfl
theorem hpP_res {f : Nat → Option M} : ∀ {g : HpM}, HpP g → resOs f g = some g
  | [], _ => rfl
  | o :: g, h => by
    obtain ⟨xs, k, rfl, hx⟩ := h o List.mem_cons_self
    show ((resBs f xs).map MO.lst).bind (fun q => (resOs f g).map (q :: ·)) = _
    rw [pus_res f hx, hpP_res (g := g) fun o ho => h o (List.mem_cons_of_mem _ ho)]; rfl
theorem e_shutP {f : FF} {ds : List M} {g : HpM} {R : M → HpM → Prop} (q : Ens (f ds g) fun d h1 => ∃ (g' : HpM) (xs : List M) (k : Nat), h1 = g' ++ [.lst xs] ∧ g'.length = g.length ∧ HpP g' ∧ (∀ y ∈ xs, Pu k y) ∧ d = .ref g.length ∧ R (.lst xs) g') : Ens (mSeal f ds g) R :=
  .bnd (q.mono fun d h1 q => by
    obtain ⟨g', xs, k, rfl, hl, h3, hx, rfl, r⟩ := q
    refine ⟨.lst xs, g', ?_, r⟩
    unfold shut
    rw [if_neg (by simp; omega)]
    show (lookR g.length (g' ++ [.lst xs]) 20 g.length).bind _ = _
    have e : lookR g.length (g' ++ [.lst xs]) (19 + 1) g.length = some (.lst xs) := by
      show (if g.length < g.length then _ else _) = _
      rw [if_neg (by omega)]
      simp only [at1 (o := MO.lst xs) hl.symm]
      rw [pus_res _ hx]; rfl
    rw [show (20 : Nat) = 19 + 1 from rfl, e, Option.bind_some, ← hl, List.take_left, hpP_res h3]; rfl)
def PM (sp : List M) (bs : List Bow) : M := .tup [.tup sp, .tup (bs.map bowM), .tup []]
theorem bow_at {bs : List Bow} {i : Nat} {p : Bow} (e : bs[i]? = some p) : bA bs i = p.1 ∧ bB bs i = p.2.1 := by
  unfold bA bB
  rw [Int.toNat_natCast, List.getD_eq_getElem?_getD, e]
  exact ⟨rfl, rfl⟩
theorem numd_bow {bs : List Bow} {i : Nat} {x : M} (e : (numd (bs.map bowM))[i]? = some x) : ∃ p, bs[i]? = some p ∧ x = .tup [.int (i : Int), bowM p] := by
  rw [numd_get, List.getElem?_map] at e
  cases q : bs[i]? with
  | none => rw [q] at e; cases e
  | some p => rw [q] at e; cases e; exact ⟨p, rfl, rfl⟩
theorem pu_mv (p : Str × Int) (h : p.1.length ≤ 100) : Pu 1 (mv p) := pu2 (k := 0) (Pu.str h) (rfl : pureB 0 (.int p.2) = true)
theorem sel_word {w : Str} {p : Nat → Bool} {m : Nat} {q : Str × Int} (h : q ∈ sel w p m) : q.1 = w := (mem_sel (w' := q.1) (k := q.2).mp h).1
theorem moves_word {n : Nat} {bs : List Bow} {S C : List Int} {q : Str × Int} (h : q ∈ movesL n bs S C) : q.1.length ≤ 100 := by
  unfold movesL at h
  rw [List.mem_append, List.mem_append, List.mem_append] at h
  rcases h with ((h | h) | h) | h <;> (rw [sel_word h]; decide +kernel)
theorem moves_len {n : Nat} {bs : List Bow} {S C : List Int} : (movesL n bs S C).length ≤ bs.length + bs.length + n + bs.length := by
  unfold movesL
  rw [List.length_append, List.length_append, List.length_append]
  have h1 := sel_len (w := "back") (p := pBack bs S C) (m := bs.length)
  have h2 := sel_len (w := "forth") (p := pForth bs S C) (m := bs.length)
  have h3 := sel_len (w := "lay") (p := pLay S) (m := n)
  have h4 := sel_len (w := "meet") (p := pMeet bs S C) (m := bs.length)
  omega
theorem e_extend {k : Nat} {h : HpM} {xs ys : List M} {R : M → HpM → Prop} (e : h[k]? = some (.lst xs)) (hl : xs.length + ys.length ≤ 16777216) (q : R .non (h.set k (.lst (xs ++ ys)))) : Ens (mExtend (.ref k) [.lst ys] h) R := ⟨.non, _, by
  show (seqL h (.lst ys)).bind (fun zs => onL (fun ys => if ys.length + zs.length ≤ 16777216 then some (.non, ys ++ zs) else none) (.ref k) h) = _
  show onL (fun xs => if xs.length + ys.length ≤ 16777216 then some (.non, xs ++ ys) else none) (.ref k) h = _
  unfold onL; simp only [e]; rw [if_pos hl]; rfl, q⟩
theorem moves_in {sp : List M} {bs : List Bow} {S C : List Int} {h : HpM} {R : M → HpM → Prop} (hp : HpP h) (hn : sp.length ≤ 5) (hB : bs.length ≤ 5) (q : R (.lst ((movesL sp.length bs S C).map mv)) h) :
    Ens (m__law_moves [PM sp bs, .lst (S.map M.int), .lst (C.map M.int)] h) R := by
  refine e_shutP ?_
  suffices z : Ens (mFun 3 5 b__law_moves [PM sp bs, .lst (S.map M.int), .lst (C.map M.int)] h) fun d h1 => d = .ref h.length ∧ h1 = h ++ [.lst ((movesL sp.length bs S C).map mv)] by
    refine z.mono ?_
    rintro d h1 ⟨rfl, rfl⟩
    refine ⟨h, _, 1, rfl, rfl, hp, fun y hy => ?_, rfl, q⟩
    obtain ⟨p, hq, rfl⟩ := List.mem_map.mp hy
    exact pu_mv p (moves_word hq)
  clear q
  have turn : ∀ (w : Str) (x y : Int) (p : Nat → Bool) (base : List (Str × Int)) (v6 v7 : Option M), base.length ≤ 5 → (∀ i : Nat, p i = (!decide ((i : Int) ∈ C) && ((((if decide (bA bs i ∈ S) = true then (1 : Int) else 0) == x) && (((if decide (bB bs i ∈ S) = true then (1 : Int) else 0) == y) && true))))) →
      Ens (sFor (iEnumerate (mCons (mOp ixM (mVar 0) (mC (.int 1))) mNil)) (gTp 2 (gsCons (gNm 6) (gsCons (gNm 7) gsNil))) (sIf (tAndM (tV (mOp opNotIn (mVar 6) (mVar 2))) (tV (mOp opEq (mTup (mCons (mCB bInt (mCons (mOp opIn (mOp ixM (mVar 7) (mC (.int 0))) (mVar 1)) mNil)) (mCons (mCB bInt (mCons (mOp opIn (mOp ixM (mVar 7) (mC (.int 1))) (mVar 1)) mNil)) mNil))) (mVar 5)))) (sDrop (mMt isL mAppend (mVar 3) (mCons (mTup (mCons (mVar 4) (mCons (mVar 6) mNil))) mNil))) sNext)
        [some (PM sp bs), some (.lst (S.map M.int)), some (.lst (C.map M.int)), some (.ref h.length), some (.str w), some (.tup [.int x, .int y]), v6, v7] (h ++ [.lst (base.map mv)]))
        fun o h' => ∃ v6 v7, o = .nx [some (PM sp bs), some (.lst (S.map M.int)), some (.lst (C.map M.int)), some (.ref h.length), some (.str w), some (.tup [.int x, .int y]), v6, v7] ∧ h' = h ++ [.lst ((base ++ sel w p bs.length).map mv)] := by
    intro w x y p base v6 v7 hb hpp
    refine e_for ?_
    refine e_iEnum ?_
    unfold PM
    walk_at "f"
    refine p_t1 ?_
    walk_at "f"
    refine ⟨_, _, rfl, rfl, ?_⟩
    refine e_over (fun i ρ h' => ∃ v6 v7, ρ = [some (PM sp bs), some (.lst (S.map M.int)), some (.lst (C.map M.int)), some (.ref h.length), some (.str w), some (.tup [.int x, .int y]), v6, v7] ∧ h' = h ++ [.lst ((base ++ sel w p i).map mv)]) ⟨_, _, rfl, by simp [sel]⟩ ?_ ?_
    · rintro i z ρ h' hz ⟨v6, v7, rfl, rfl⟩
      have hi : i < bs.length := by have := (List.getElem?_eq_some_iff.mp hz).1; rw [numd_length, List.length_map] at this; exact this
      obtain ⟨b, hb', rfl⟩ := numd_bow hz
      obtain ⟨eA, eB⟩ := bow_at hb'
      unfold bowM
      walk_at "f"
      refine p_notInIL ?_
      walk_at "f"
      have hp' := hpp i
      rw [sel_succ]
      refine ite_b (fun q1 => ?_) (fun q1 => ?_)
      · rw [q1, Bool.true_and] at hp'
        walk_at "f"
        refine p_hd ?_
        walk_at "f"
        refine p_inIL ?_
        walk_at "f"
        refine p_t1 ?_
        walk_at "f"
        refine p_inIL ?_
        walk_at "f"
        refine p_eq2I ?_
        rw [← eA, ← eB, ← hp']
        walk_at "f"
        refine ite_b (fun q2 => ?_) (fun q2 => ?_)
        · walk_at "f"
          refine e_mt ?_
          walk_at "f"
          refine ⟨isL_last, ?_⟩
          walk_at "f"
          refine e_append (at1 rfl) (by have := sel_len (w := w) (p := p) (m := i); simp; omega) ?_
          walk_at "f"
          rw [set1 rfl, if_pos q2]
          refine ⟨_, _, rfl, by rw [← List.append_assoc, List.map_append (l₁ := base ++ sel w p i)]; rfl⟩
        · walk_at "f"
          rw [if_neg (by rw [q2]; decide), List.append_nil]
          exact ⟨_, _, rfl, rfl⟩
      · rw [q1, Bool.false_and] at hp'
        walk_at "f"
        rw [if_neg (by rw [hp']; decide), List.append_nil]
        exact ⟨_, _, rfl, rfl⟩
    · rintro ρ h' ⟨v6, v7, rfl, rfl⟩
      rw [numd_length, List.length_map]
      exact ⟨_, _, rfl, rfl⟩
  refine e_fun rfl ?_
  unfold b__law_moves
  walk_at "f"
  refine e_iT ?_
  walk_at "f"
  refine e_loopC ?_
  refine e_body ?_
  refine e_gtp rfl ?_
  refine e_gcons ?_
  refine e_nm ?_
  refine e_gcons ?_
  refine e_nm ?_
  refine e_gnil ?_
  refine join _ (turn "back" 0 1 (pBack bs S C) [] _ _ (by simp) ?_) ?_
  · intro i
    unfold pBack
    by_cases h1 : bA bs i ∈ S <;> by_cases h2 : bB bs i ∈ S <;> simp [h1, h2]
  rintro o h' ⟨v6, v7, rfl, rfl⟩
  walk_at "f"
  refine e_loopC ?_
  refine e_body ?_
  refine e_gtp rfl ?_
  refine e_gcons ?_
  refine e_nm ?_
  refine e_gcons ?_
  refine e_nm ?_
  refine e_gnil ?_
  refine join _ (turn "forth" 1 0 (pForth bs S C) _ _ _ (by rw [List.nil_append]; exact Nat.le_trans sel_len hB) ?_) ?_
  · intro i
    unfold pForth
    by_cases h1 : bA bs i ∈ S <;> by_cases h2 : bB bs i ∈ S <;> simp [h1, h2]
  rintro o h' ⟨v6, v7, rfl, rfl⟩
  clear turn
  rw [List.nil_append]
  walk_at "f"
  refine e_loopN ?_
  walk_at "f"
  refine e_mt ?_
  walk_at "f"
  refine ⟨isL_last, ?_⟩
  walk_at "f"
  refine e_iR1 ?_
  unfold PM
  walk_at "f"
  refine p_hd ?_
  walk_at "f"
  have hn' : ((sp.length : Int)).toNat = sp.length := Int.toNat_natCast _
  refine ⟨⟨by omega, by omega⟩, ?_⟩
  rw [hn']
  refine ⟨by simp; omega, ?_⟩
  refine e_over2 (fun i acc h' => acc = (sel "lay" (pLay S) i).map mv ∧ h' = h ++ [.lst ((sel "back" (pBack bs S C) bs.length ++ sel "forth" (pForth bs S C) bs.length).map mv)]) ⟨rfl, rfl⟩ ?_ ?_
  · rintro i y acc h' hy ⟨rfl, rfl⟩
    obtain rfl : y = .int (i : Int) := by
      rw [List.getElem?_map] at hy
      obtain ⟨j, hj, rfl⟩ := Option.map_eq_some_iff.mp hy
      obtain ⟨h1, h2⟩ := List.getElem?_eq_some_iff.mp hj
      rw [List.getElem_range] at h2
      rw [h2]
    walk_at "f"
    refine p_notInIL ?_
    walk_at "f"
    rw [sel_succ]
    refine ite_b (fun q1 => ?_) (fun q1 => ?_)
    · walk_at "f"
      rw [if_pos (show pLay S i = true from q1), List.map_append]
      exact ⟨rfl, rfl⟩
    · rw [if_neg (show ¬ pLay S i = true by rw [show pLay S i = false from q1]; decide), List.append_nil]
      exact ⟨rfl, rfl⟩
  rintro acc h' ⟨rfl, rfl⟩
  rw [List.length_map, List.length_range]
  have l1 := sel_len (w := "back") (p := pBack bs S C) (m := bs.length)
  have l2 := sel_len (w := "forth") (p := pForth bs S C) (m := bs.length)
  have l3 := sel_len (w := "lay") (p := pLay S) (m := sp.length)
  walk_at "f"
  refine e_extend (at1 rfl) (by simp; omega) ?_
  rw [set1 rfl, ← List.map_append]
  walk_at "f"
  refine e_iEnum ?_
  walk_at "f"
  refine p_t1 ?_
  walk_at "f"
  refine ⟨_, _, rfl, rfl, ?_⟩
  refine e_over (fun i ρ h' => ∃ v6 v7, ρ = [some (PM sp bs), some (.lst (S.map M.int)), some (.lst (C.map M.int)), some (.ref h.length), some (.str "forth"), some (.tup [.int 1, .int 0]), v6, v7] ∧ h' = h ++ [.lst (((sel "back" (pBack bs S C) bs.length ++ sel "forth" (pForth bs S C) bs.length ++ sel "lay" (pLay S) sp.length) ++ sel "meet" (pMeet bs S C) i).map mv)]) ⟨_, _, rfl, by simp [sel]⟩ ?_ ?_
  · rintro i z ρ h' hz ⟨v6, v7, rfl, rfl⟩
    have hi : i < bs.length := by have := (List.getElem?_eq_some_iff.mp hz).1; rw [numd_length, List.length_map] at this; exact this
    obtain ⟨b, hb', rfl⟩ := numd_bow hz
    obtain ⟨eA, eB⟩ := bow_at hb'
    unfold bowM
    walk_at "f"
    refine p_notInIL ?_
    walk_at "f"
    rw [sel_succ]
    refine ite_b (fun q1 => ?_) (fun q1 => ?_)
    · walk_at "f"
      refine p_hd ?_
      walk_at "f"
      refine p_inIL ?_
      rw [← eA]
      walk_at "f"
      refine ite_b (fun q2 => ?_) (fun q2 => ?_)
      · walk_at "f"
        refine p_t1 ?_
        walk_at "f"
        refine p_inIL ?_
        rw [← eB]
        walk_at "f"
        refine ite_b (fun q3 => ?_) (fun q3 => ?_)
        · walk_at "f"
          refine e_mt ?_
          walk_at "f"
          refine ⟨isL_last, ?_⟩
          walk_at "f"
          refine e_append (at1 rfl) (by have := sel_len (w := "meet") (p := pMeet bs S C) (m := i); simp; omega) ?_
          walk_at "f"
          rw [set1 rfl, if_pos (show pMeet bs S C i = true by unfold pMeet; rw [q1, q2, q3]; rfl)]
          refine ⟨_, _, rfl, by rw [← List.append_assoc _ (sel "meet" (pMeet bs S C) i) _, List.map_append (l₁ := _ ++ sel "meet" (pMeet bs S C) i)]; rfl⟩
        · walk_at "f"
          rw [if_neg (show ¬ pMeet bs S C i = true by unfold pMeet; rw [q1, q2, q3]; decide), List.append_nil]
          exact ⟨_, _, rfl, rfl⟩
      · walk_at "f"
        rw [if_neg (show ¬ pMeet bs S C i = true by unfold pMeet; rw [q1, q2, Bool.false_and]; decide), List.append_nil]
        exact ⟨_, _, rfl, rfl⟩
    · walk_at "f"
      rw [if_neg (show ¬ pMeet bs S C i = true by unfold pMeet; rw [q1, Bool.false_and]; decide), List.append_nil]
      exact ⟨_, _, rfl, rfl⟩
  · rintro ρ h' ⟨v6, v7, rfl, rfl⟩
    rw [numd_length, List.length_map]
    walk_at "f"
    exact ⟨rfl, rfl⟩
theorem of2 {xs : List M} (q : ((xs.length : Int) != 2) = false) : ∃ a b, xs = [a, b] := by
  match xs, q with
  | [a, b], _ => exact ⟨a, b, rfl⟩
  | [], q => simp at q
  | [_], q => simp at q
  | _ :: _ :: _ :: _, q => simp at q; omega
theorem p_tupL {R : M → Prop} {h : HpM} {xs : List M} (q : R (.tup xs)) : Enp (bTuple [.lst xs] h) R := ⟨_, rfl, q⟩
def isSeq : M → Bool
  | .lst _ => true
  | .tup _ => true
  | _ => false
theorem p_isSeq {R : M → Prop} {h : HpM} {k : Nat} {x : M} (a b : String) (hab : (a = "list" ∧ b = "tuple") ∨ (a = "tuple" ∧ b = "list")) (hx : Pu k x) (q : R (.bl (isSeq x))) : Enp (bInst [x, .tup [.ty a, .ty b]] h) R := by
  have key : ∀ (t : String) (r : Bool), tyM h x = t → t ≠ "" → [a, b].any (instB t) = r → bInst [x, .tup [.ty a, .ty b]] h = some (.bl r) := by
    intro t r e1 e2 e3
    show (if tyM h x ≠ "" ∧ [a, b].all okTy = true then some (M.bl ([a, b].any (instB (tyM h x)))) else none) = _
    rw [if_pos ⟨by rw [e1]; exact e2, by rcases hab with ⟨rfl, rfl⟩ | ⟨rfl, rfl⟩ <;> decide⟩, e1, e3]
  cases x with
  | non => exact ⟨_, key "NoneType" false rfl (by decide) (by rcases hab with ⟨rfl, rfl⟩ | ⟨rfl, rfl⟩ <;> decide), q⟩
  | bl _ => exact ⟨_, key "bool" false rfl (by decide) (by rcases hab with ⟨rfl, rfl⟩ | ⟨rfl, rfl⟩ <;> decide), q⟩
  | int _ => exact ⟨_, key "int" false rfl (by decide) (by rcases hab with ⟨rfl, rfl⟩ | ⟨rfl, rfl⟩ <;> decide), q⟩
  | str _ => exact ⟨_, key "str" false rfl (by decide) (by rcases hab with ⟨rfl, rfl⟩ | ⟨rfl, rfl⟩ <;> decide), q⟩
  | tup _ => exact ⟨_, key "tuple" true rfl (by decide) (by rcases hab with ⟨rfl, rfl⟩ | ⟨rfl, rfl⟩ <;> decide), q⟩
  | lst _ => exact ⟨_, key "list" true rfl (by decide) (by rcases hab with ⟨rfl, rfl⟩ | ⟨rfl, rfl⟩ <;> decide), q⟩
  | dct _ _ => cases k <;> cases hx
  | ref _ => cases k <;> cases hx
  | scr _ => cases k <;> cases hx
  | ty _ => cases k <;> cases hx
theorem mv2 {w : Str} {k : Int} : mv (w, k) = .tup [.str w, .int k] := rfl
theorem bow1 {b : Bow} : bowM b = .tup [.int b.1, .int b.2.1, b.2.2.1, b.2.2.2] := rfl
theorem cut2 {a b : M} {ps : List M} : cutM (a :: b :: ps) none (some 2) = [a, b] := by show cutM (a :: b :: ps) none (some ((2 : Nat) : Int)) = _; rw [cut_to (by simp)]; rfl
theorem with_run {L : List Int} {k : Int} {h : HpM} (hl : L.length < 63) : m_with_one [.tup (L.map M.int), .int k] h = some (.tup ((sortI (L ++ [k])).map M.int), h) := by
  apply run_of
  refine e_fun rfl ?_
  unfold b_with_one
  walk_at "f"
  refine p_addT (by simp; omega) ?_
  rw [show L.map M.int ++ [.int k] = (L ++ [k]).map M.int by simp]
  walk_at "f"
  refine p_sortedT (by simp; omega) ?_
  walk_at "f"
  refine p_tupL ?_
  walk_at "f"
  exact ⟨rfl, rfl⟩
def MVS : List Str := ["back", "forth", "lay", "meet"]
def mvB (n B : Nat) : M → Bool
  | .tup [w, y] => inTx MVS w && snumB (if isTx "lay" w = true then (n : Int) else (B : Int)) y
  | _ => false
theorem mvB_two {n B : Nat} {w y : M} : mvB n B (.tup [w, y]) = (inTx MVS w && snumB (if isTx "lay" w = true then (n : Int) else (B : Int)) y) := rfl
theorem mvB_ne {n B : Nat} {xs : List M} (q : ((xs.length : Int) != 2) = true) : mvB n B (.tup xs) = false := by
  match xs, q with
  | [a, b], q => simp at q
  | [], q => rfl
  | [_], q => rfl
  | _ :: _ :: _ :: _, q => rfl
theorem many_run {sp : List M} {bs : List Bow} {k : Nat} {w : M} {h : HpM} (hw : Pu k w) (hk : k ≤ 150) : m_many_for [PM sp bs, w] h = some (.int (if isTx "lay" w = true then (sp.length : Int) else (bs.length : Int)), h) := by
  apply run_of
  refine e_fun rfl ?_
  unfold b_many_for PM
  walk_at "f"
  refine p_eqT hw hk ?_
  walk_at "f"
  refine ite_b (fun q => ?_) (fun q => ?_)
  · walk_at "f"
    refine p_hd ?_
    walk_at "f"
    exact ⟨by rw [if_pos q], rfl⟩
  · walk_at "f"
    refine p_t1 ?_
    walk_at "f"
    exact ⟨by rw [if_neg (by rw [q]; decide), List.length_map], rfl⟩
theorem mv_run {sp : List M} {bs : List Bow} {k : Nat} {x : M} {h : HpM} (hx : Pu k x) (hk : k ≤ 150) : m_is_move [PM sp bs, x] h = some (.bl (mvB sp.length bs.length x), h) := by
  apply run_of
  refine e_fun rfl ?_
  unfold b_is_move
  cases x with
  | dct _ _ => cases k <;> cases hx
  | ref _ => cases k <;> cases hx
  | scr _ => cases k <;> cases hx
  | ty _ => cases k <;> cases hx
  | tup xs =>
    cases k with
    | zero => exact hx.zero.elim
    | succ k =>
      walk_at "f"
      refine ite_b (fun q => ?_) (fun q => ?_)
      · walk_at "f"; exact ⟨by rw [mvB_ne q], rfl⟩
      · obtain ⟨a, b, rfl⟩ := of2 q
        have ha := hx.un a (by simp)
        have hb := hx.un b (by simp)
        walk_at "f"
        refine p_hd ?_
        walk_at "f"
        refine p_notInW MVS (by with_unfolding_all rfl) ha ?_
        walk_at "f"
        refine ite_b (fun q1 => ?_) (fun q1 => ?_)
        · walk_at "f"
          exact ⟨by have : inTx MVS a = false := (by simpa using q1); rw [mvB_two, this]; rfl, rfl⟩
        · walk_at "f"
          refine p_t1 ?_
          walk_at "f"
          refine p_hd ?_
          walk_at "f"
          refine ens_eq (many_run ha (by omega)) ?_
          walk_at "f"
          refine ens_eq (snum_run hb) ?_
          walk_at "f"
          exact ⟨by have : inTx MVS a = true := (by simpa using q1); rw [mvB_two, this]; rfl, rfl⟩
  | _ => walk_at "f"; exact ⟨rfl, rfl⟩
theorem mvB_is {n B : Nat} {x : M} (h : mvB n B x = true) : ∃ w k, x = mv (w, k) ∧ w ∈ MVS := by
  unfold mvB at h
  split at h
  · rename_i a b
    rw [Bool.and_eq_true] at h
    obtain ⟨h1, h2⟩ := h
    cases a with
    | str w =>
      obtain ⟨s, hs, e⟩ := List.any_eq_true.mp (show MVS.any (· == w) = true from h1)
      obtain rfl : s = w := eq_of_beq e
      cases b with
      | int k => exact ⟨_, k, rfl, hs⟩
      | _ => cases h2
    | _ => cases h1
  · cases h
theorem mvB_range {n B : Nat} {w : Str} {k : Int} (h : mvB n B (mv (w, k)) = true) : 0 ≤ k ∧ k < if isTx "lay" (.str w) = true then (n : Int) else (B : Int) := by
  unfold mvB mv at h
  rw [Bool.and_eq_true] at h
  have h2 : (decide (0 ≤ k) && decide (k < if isTx "lay" (.str w) = true then (n : Int) else (B : Int))) = true := h.2
  rw [Bool.and_eq_true] at h2
  exact ⟨of_decide_eq_true h2.1, of_decide_eq_true h2.2⟩
theorem stp_mvB {n : Nat} {bs : List Bow} {S C : List Int} {w : Str} {k : Int} (h : mvB n bs.length (mv (w, k)) = false) : stp n bs S C w k = none := by
  have mk : ∀ {w : Str}, w ∈ MVS → mvB n bs.length (mv (w, k)) = snumB (if isTx "lay" (.str w) = true then (n : Int) else (bs.length : Int)) (.int k) := by
    intro w hw
    have : inTx MVS (.str w) = true := List.any_eq_true.mpr ⟨w, hw, beq_self_eq_true w⟩
    unfold mv
    rw [mvB_two, this]; rfl
  have no : ∀ {m : Int}, snumB m (.int k) = false → ∀ {P : Prop}, ¬ (0 ≤ k ∧ k < m ∧ P) := by
    rintro m e P ⟨h0, h1, _⟩
    have : (decide (0 ≤ k) && decide (k < m)) = false := e
    rw [decide_eq_true h0, decide_eq_true h1] at this
    cases this
  by_cases h1 : w = "lay"
  · subst h1
    rw [mk (by decide +kernel), if_pos (by decide +kernel)] at h
    rw [stp_lay, if_neg (no h)]
  by_cases h2 : w = "meet"
  · subst h2
    rw [mk (by decide +kernel), if_neg (by decide +kernel)] at h
    rw [stp_meet, if_neg (no h)]
  by_cases h3 : w = "forth"
  · subst h3
    rw [mk (by decide +kernel), if_neg (by decide +kernel)] at h
    rw [stp_forth, if_neg (no h)]
  by_cases h4 : w = "back"
  · subst h4
    rw [mk (by decide +kernel), if_neg (by decide +kernel)] at h
    rw [stp_back, if_neg (no h)]
  · exact stp_other h1 h2 h3 h4
theorem stp_len {n : Nat} {bs : List Bow} {S C S' C' : List Int} {w : Str} {k : Int} (h : stp n bs S C w k = some (S', C')) : S'.length ≤ S.length + 1 ∧ C'.length ≤ C.length + 1 := by
  unfold stp at h
  split at h
  · split at h
    · cases h; simp
    · cases h
  · split at h
    · split at h
      · split at h
        · cases h; simp
        · cases h
      · split at h
        · split at h
          · cases h; simp
          · cases h
        · split at h
          · split at h
            · cases h; simp
            · cases h
          · cases h
    · cases h
theorem sort_perm {L S : List Int} {k : Int} (h : L.Perm S) : (sortI (L ++ [k])).Perm (S ++ [k]) := (List.mergeSort_perm _ _).trans (h.append_right [k])
theorem dec_perm {L S : List Int} {k : Int} (h : L.Perm S) : decide (k ∈ L) = decide (k ∈ S) := by rw [Bool.eq_iff_iff, decide_eq_true_iff, decide_eq_true_iff]; exact h.mem_iff
theorem behind_in {sp : List M} {bs : List Bow} {L K S C : List Int} {w : Str} {k : Int} {h : HpM} {R : M → HpM → Prop} (hL : L.Perm S) (hK : K.Perm C) (l1 : L.length < 62) (l2 : K.length < 62) (hw : w ∈ MVS) (hv : mvB sp.length bs.length (mv (w, k)) = true)
    (q0 : stp sp.length bs S C w k = none → R .non h) (q1 : ∀ L' K' S' C' : List Int, stp sp.length bs S C w k = some (S', C') → L'.Perm S' → K'.Perm C' → R (.tup [.tup (L'.map M.int), .tup (K'.map M.int)]) h) :
    Ens (m_behind_move [PM sp bs, .tup [.tup (L.map M.int), .tup (K.map M.int)], mv (w, k)] h) R := by
  obtain ⟨h0, h1⟩ := mvB_range hv
  clear hv
  have hd := fun i => dec_perm (k := i) hL
  refine e_fun rfl ?_
  unfold b_behind_move
  rw [mv2]
  walk_at "f"
  by_cases hlay : w = "lay"
  · subst hlay
    rw [if_pos (by decide +kernel)] at h1
    rw [stp_lay] at q0 q1
    refine ite_T (by decide +kernel) ?_
    walk_at "f"
    refine p_inIT ?_
    rw [hd]
    walk_at "f"
    refine ite_b (fun q => ?_) (fun q => ?_)
    · walk_at "f"
      exact q0 (if_neg fun z => z.2.2 (of_decide_eq_true q))
    · walk_at "f"
      refine ens_eq (with_run (by omega)) ?_
      walk_at "f"
      exact q1 _ _ _ _ (if_pos ⟨h0, h1, of_decide_eq_false q⟩) (sort_perm hL) hK
  have hlb : (w == ("lay" : Str)) = false := by rw [beq_eq_false_iff_ne]; exact hlay
  rw [if_neg (by rw [show isTx "lay" (.str w) = false from hlb]; decide)] at h1
  obtain ⟨j, rfl⟩ := Int.eq_ofNat_of_zero_le h0
  have hj : j < bs.length := by omega
  obtain ⟨b, hb⟩ : ∃ b, bs[j]? = some b := ⟨_, List.getElem?_eq_getElem hj⟩
  obtain ⟨eA, eB⟩ := bow_at hb
  refine ite_F hlb ?_
  walk_at "f"
  refine p_inIT ?_
  rw [dec_perm hK]
  walk_at "f"
  have hw' : w = "meet" ∨ w = "forth" ∨ w = "back" := by
    simp only [MVS, List.mem_cons, List.not_mem_nil, or_false] at hw
    rcases hw with e | e | e | e
    · exact .inr (.inr e)
    · exact .inr (.inl e)
    · exact absurd e hlay
    · exact .inl e
  refine ite_b (fun q => ?_) (fun q => ?_)
  · walk_at "f"
    refine q0 ?_
    have hn : ∀ {P : Prop}, ¬ (P ∧ (j : Int) < bs.length ∧ (j : Int) ∉ C) := fun z => z.2.2 (of_decide_eq_true q)
    rcases hw' with rfl | rfl | rfl
    · rw [stp_meet, if_neg hn]
    · rw [stp_forth, if_neg hn]
    · rw [stp_back, if_neg hn]
  have hC : (0 ≤ (j : Int) ∧ (j : Int) < bs.length ∧ (j : Int) ∉ C) := ⟨h0, h1, of_decide_eq_false q⟩
  unfold PM
  walk_at "f"
  refine p_t1 ?_
  walk_at "f"
  refine p_tn (j := j) (x := bowM b) (by rw [List.getElem?_map, hb]; rfl) ?_
  rw [bow1]
  walk_at "f"
  rw [cut2, ← eA, ← eB]
  walk_at "f"
  rcases hw' with rfl | rfl | rfl
  · rw [stp_meet, if_pos hC] at q0 q1
    refine ite_T (by decide +kernel) ?_
    walk_at "f"
    refine p_inIT ?_
    rw [hd]
    walk_at "f"
    refine ite_b (fun r1 => ?_) (fun r1 => ?_)
    · walk_at "f"
      refine p_inIT ?_
      rw [hd]
      walk_at "f"
      refine ite_b (fun r2 => ?_) (fun r2 => ?_)
      · walk_at "f"
        refine ens_eq (with_run (by omega)) ?_
        walk_at "f"
        exact q1 _ _ _ _ (if_pos ⟨of_decide_eq_true r1, of_decide_eq_true r2⟩) hL (sort_perm hK)
      · walk_at "f"
        exact q0 (if_neg fun z => of_decide_eq_false r2 z.2)
    · refine ite_f ?_
      walk_at "f"
      exact q0 (if_neg fun z => of_decide_eq_false r1 z.1)
  · rw [stp_forth, if_pos hC] at q0 q1
    refine ite_F (by decide +kernel) ?_
    walk_at "f"
    refine ite_T (by decide +kernel) ?_
    walk_at "f"
    refine p_notInIT ?_
    rw [hd]
    walk_at "f"
    refine ite_b (fun r1 => ?_) (fun r1 => ?_)
    · refine ite_t ?_
      walk_at "f"
      exact q0 (if_neg fun z => by rw [decide_eq_true z.1] at r1; cases r1)
    · walk_at "f"
      refine p_inIT ?_
      rw [hd]
      walk_at "f"
      refine ite_b (fun r2 => ?_) (fun r2 => ?_)
      · walk_at "f"
        exact q0 (if_neg fun z => z.2 (of_decide_eq_true r2))
      · walk_at "f"
        refine ens_eq (with_run (by omega)) ?_
        walk_at "f"
        refine ens_eq (with_run (by omega)) ?_
        walk_at "f"
        exact q1 _ _ _ _ (if_pos ⟨by simpa using r1, of_decide_eq_false r2⟩) (sort_perm hL) (sort_perm hK)
  · rw [stp_back, if_pos hC] at q0 q1
    refine ite_F (by decide +kernel) ?_
    walk_at "f"
    refine ite_F (by decide +kernel) ?_
    walk_at "f"
    refine p_notInIT ?_
    rw [hd]
    walk_at "f"
    refine ite_b (fun r1 => ?_) (fun r1 => ?_)
    · refine ite_t ?_
      walk_at "f"
      exact q0 (if_neg fun z => by rw [decide_eq_true z.1] at r1; cases r1)
    · walk_at "f"
      refine p_inIT ?_
      rw [hd]
      walk_at "f"
      refine ite_b (fun r2 => ?_) (fun r2 => ?_)
      · walk_at "f"
        exact q0 (if_neg fun z => z.2 (of_decide_eq_true r2))
      · walk_at "f"
        refine ens_eq (with_run (by omega)) ?_
        walk_at "f"
        refine ens_eq (with_run (by omega)) ?_
        walk_at "f"
        exact q1 _ _ _ _ (if_pos ⟨by simpa using r1, of_decide_eq_false r2⟩) (sort_perm hL) (sort_perm hK)
theorem stp_not {n : Nat} {bs : List Bow} {S C : List Int} {m : M} {r : List M} (h : ∀ w k, m = mv (w, k) → stp n bs S C w k = none) : runB n bs S C (m :: r) = false := by
  unfold runB
  split
  · rename_i p e
    have : m = mv (p.1, p.2) := by
      unfold mvOf at e
      split at e
      · cases e; rfl
      · cases e
    rw [h _ _ this]
  · rfl
theorem runB_mv {n : Nat} {bs : List Bow} {S C S' C' : List Int} {w : Str} {k : Int} {r : List M} (h : stp n bs S C w k = some (S', C')) : runB n bs S C (mv (w, k) :: r) = runB n bs S' C' r := by
  rw [mv2]
  show (match stp n bs S C w k with | some q => runB n bs q.1 q.2 r | none => false) = _
  rw [h]
theorem mv_inj {w w' : Str} {k k' : Int} (h : mv (w, k) = mv (w', k')) : w = w' ∧ k = k' := by
  rw [mv2, mv2] at h
  injection h with h
  injection h with h1 h2
  injection h2 with h2 _
  injection h1 with h1
  injection h2 with h2
  exact ⟨h1, h2⟩
def planB (n : Nat) (bs : List Bow) : M → Bool
  | .lst xs => runB n bs [] [] xs
  | .tup xs => runB n bs [] [] xs
  | _ => false
theorem drop_get {xs : List M} {i : Nat} {x : M} (h : xs[i]? = some x) : xs.drop i = x :: xs.drop (i + 1) := by
  obtain ⟨hi, rfl⟩ := List.getElem?_eq_some_iff.mp h
  exact List.drop_eq_getElem_cons hi
theorem whole_run {sp : List M} {bs : List Bow} {L K S C : List Int} {h : HpM} (hL : L.Perm S) (hK : K.Perm C) : m_is_whole [PM sp bs, .tup [.tup (L.map M.int), .tup (K.map M.int)]] h = some (.bl (runB sp.length bs S C []), h) := by
  have e : runB sp.length bs S C [] = ((((L.map M.int).length : Int) == (sp.length : Int)) && (((K.map M.int).length : Int) == ((bs.map bowM).length : Int))) := by
    show ((S.length == sp.length) && (C.length == bs.length)) = _
    rw [List.length_map, List.length_map, List.length_map, hL.length_eq, hK.length_eq, Bool.eq_iff_iff]
    simp
    omega
  apply run_of
  rw [e]
  refine e_fun rfl ?_
  unfold b_is_whole PM
  walk_at "f"
  refine p_hd ?_
  walk_at "f"
  refine p_hd ?_
  walk_at "f"
  refine ite_b (fun q => ?_) (fun q => ?_)
  · rw [q]
    walk_at "f"
    refine p_t1 ?_
    walk_at "f"
    refine p_t1 ?_
    walk_at "f"
    exact ⟨rfl, rfl⟩
  · rw [q]
    exact ⟨rfl, rfl⟩
theorem plan_run {sp : List M} {bs : List Bow} {k : Nat} {x : M} {h : HpM} (hx : Pu k x) (hk : k ≤ 150) (hl : ∀ xs, x = .tup xs ∨ x = .lst xs → xs.length ≤ 40) : m_is_plan [PM sp bs, x] h = some (.bl (planB sp.length bs x), h) := by
  have main : ∀ xs : List M, (∃ k, k ≤ 150 ∧ ∀ y ∈ xs, Pu k y) → (x = .tup xs ∨ x = .lst xs) → planB sp.length bs x = runB sp.length bs [] [] xs → m_is_plan [PM sp bs, x] h = some (.bl (planB sp.length bs x), h) := by
    rintro xs ⟨k', hk', hxs⟩ ex eb
    have hl' := hl xs ex
    rw [eb]
    apply run_of
    refine e_fun rfl ?_
    unfold b_is_plan
    walk_at "f"
    refine p_isSeq "list" "tuple" (.inl ⟨rfl, rfl⟩) hx ?_
    rw [show isSeq x = true by rcases ex with rfl | rfl <;> rfl]
    walk_at "f"
    refine e_iAT ?_
    walk_at "f"
    refine ⟨xs, ex, ?_⟩
    refine e_over (fun i ρ h' => ∃ (L K S C : List Int) (v3 : Option M), ρ = [some (PM sp bs), some x, some (.tup [.tup (L.map M.int), .tup (K.map M.int)]), v3] ∧ h' = h ∧ L.Perm S ∧ K.Perm C ∧ S.length ≤ i ∧ C.length ≤ i ∧ runB sp.length bs S C (xs.drop i) = runB sp.length bs [] [] xs) ⟨[], [], [], [], none, rfl, rfl, .nil, .nil, by simp, by simp, by simp⟩ ?_ ?_
    · rintro i y ρ h' hy ⟨L, K, S, C, v3, rfl, rfl, hL, hK, s1, s2, er⟩
      have hi : i < xs.length := (List.getElem?_eq_some_iff.mp hy).1
      have hp := hxs y (List.mem_of_getElem? hy)
      have l1 := hL.length_eq
      have l2 := hK.length_eq
      rw [drop_get hy] at er
      walk_at "f"
      refine ens_eq (mv_run hp (by omega)) ?_
      walk_at "f"
      refine ite_b (fun q => ?_) (fun q => ?_)
      · obtain ⟨w, k, rfl, hw⟩ := mvB_is q
        walk_at "f"
        refine behind_in hL hK (by omega) (by omega) hw q (fun e => ?_) (fun L' K' S' C' e hL' hK' => ?_)
        · walk_at "f"
          refine ite_T rfl ?_
          walk_at "f"
          refine ⟨?_, rfl⟩
          rw [← er, stp_not]
          intro w' k' e'
          obtain ⟨rfl, rfl⟩ := mv_inj e'
          exact e
        · have := stp_len e
          rw [runB_mv e] at er
          walk_at "f"
          refine ite_F rfl ?_
          walk_at "f"
          exact ⟨L', K', S', C', _, rfl, rfl, hL', hK', by omega, by omega, er⟩
      · walk_at "f"
        refine ite_T rfl ?_
        walk_at "f"
        refine ⟨?_, rfl⟩
        rw [← er, stp_not]
        intro w k e
        subst e
        exact stp_mvB q
    · rintro ρ h' ⟨L, K, S, C, v3, rfl, rfl, hL, hK, s1, s2, er⟩
      walk_at "f"
      refine ens_eq (whole_run hL hK) ?_
      walk_at "f"
      rw [List.drop_eq_nil_of_le (Nat.le_refl _)] at er
      exact ⟨by rw [er], rfl⟩
  cases x with
  | dct _ _ => cases k <;> cases hx
  | ref _ => cases k <;> cases hx
  | scr _ => cases k <;> cases hx
  | ty _ => cases k <;> cases hx
  | tup xs =>
    cases k with
    | zero => exact hx.zero.elim
    | succ k => exact main xs ⟨k, by omega, hx.un⟩ (.inl rfl) rfl
  | lst xs =>
    cases k with
    | zero => cases hx
    | succ k => exact main xs ⟨k, by omega, hx.unL⟩ (.inr rfl) rfl
  | _ =>
    apply run_of
    refine e_fun rfl ?_
    unfold b_is_plan
    walk_at "f"
    refine p_isSeq "list" "tuple" (.inl ⟨rfl, rfl⟩) hx ?_
    unfold isSeq
    walk_at "f"
    exact ⟨rfl, rfl⟩
theorem lbehind_in {sp : List M} {bs : List Bow} {S C S' C' : List Int} {w : Str} {k : Int} {h : HpM} {R : M → HpM → Prop} (l1 : S.length ≤ 1000) (l2 : C.length ≤ 1000) (e : stp sp.length bs S C w k = some (S', C')) (q : R (.tup [.lst (S'.map M.int), .lst (C'.map M.int)]) h) :
    Ens (m__law_behind [PM sp bs, .lst (S.map M.int), .lst (C.map M.int), mv (w, k)] h) R := by
  have ad : ∀ {S : List Int} {i : Int}, S.map M.int ++ [M.int i] = (S ++ [i]).map M.int := by intro S i; simp
  refine e_fun rfl ?_
  unfold b__law_behind
  rw [mv2]
  walk_at "f"
  by_cases h1 : w = "lay"
  · subst h1
    rw [stp_lay] at e
    split at e
    · cases e
      refine ite_T (by decide +kernel) ?_
      walk_at "f"
      refine p_addL (by simp; omega) ?_
      rw [ad]
      walk_at "f"
      exact q
    · cases e
  have hj : 0 ≤ k ∧ k < bs.length := by
    unfold stp at e
    rw [if_neg h1] at e
    split at e
    · rename_i z; exact ⟨z.1, z.2.1⟩
    · cases e
  obtain ⟨j, rfl⟩ := Int.eq_ofNat_of_zero_le hj.1
  obtain ⟨b, hb⟩ : ∃ b, bs[j]? = some b := ⟨_, List.getElem?_eq_getElem (by omega)⟩
  obtain ⟨eA, eB⟩ := bow_at hb
  by_cases h2 : w = "meet"
  · subst h2
    rw [stp_meet] at e
    split at e
    · split at e
      · cases e
        refine ite_F (by decide +kernel) ?_
        walk_at "f"
        refine ite_F (by decide +kernel) ?_
        walk_at "f"
        refine ite_F (by decide +kernel) ?_
        walk_at "f"
        refine p_addL (by simp; omega) ?_
        rw [ad]
        walk_at "f"
        exact q
      · cases e
    · cases e
  by_cases h3 : w = "forth"
  · subst h3
    rw [stp_forth] at e
    split at e
    · split at e
      · cases e
        refine ite_F (by decide +kernel) ?_
        walk_at "f"
        refine ite_T (by decide +kernel) ?_
        unfold PM
        walk_at "f"
        refine p_t1 ?_
        walk_at "f"
        refine p_tn (j := j) (x := bowM b) (by rw [List.getElem?_map, hb]; rfl) ?_
        rw [bow1]
        walk_at "f"
        refine p_t1 ?_
        rw [← eB]
        walk_at "f"
        refine p_addL (by simp; omega) ?_
        rw [ad]
        walk_at "f"
        refine ite_F (by decide +kernel) ?_
        walk_at "f"
        refine p_addL (by simp; omega) ?_
        rw [ad]
        walk_at "f"
        exact q
      · cases e
    · cases e
  by_cases h4 : w = "back"
  · subst h4
    rw [stp_back] at e
    split at e
    · split at e
      · cases e
        refine ite_F (by decide +kernel) ?_
        walk_at "f"
        refine ite_F (by decide +kernel) ?_
        walk_at "f"
        refine ite_T (by decide +kernel) ?_
        unfold PM
        walk_at "f"
        refine p_t1 ?_
        walk_at "f"
        refine p_tn (j := j) (x := bowM b) (by rw [List.getElem?_map, hb]; rfl) ?_
        rw [bow1]
        walk_at "f"
        refine p_hd ?_
        rw [← eA]
        walk_at "f"
        refine p_addL (by simp; omega) ?_
        rw [ad]
        walk_at "f"
        refine p_addL (by simp; omega) ?_
        rw [ad]
        walk_at "f"
        exact q
      · cases e
    · cases e
  rw [stp_other h1 h2 h3 h4] at e
  cases e
def isBl : M → Bool
  | .bl _ => true
  | _ => false
theorem p_isBool {R : M → Prop} {h : HpM} {k : Nat} {x : M} (hx : Pu k x) (q : R (.bl (isBl x))) : Enp (bInst [x, .ty "bool"] h) R := by
  cases x with
  | non => exact pi_non_bool q
  | bl _ => exact pi_bl_bool q
  | int _ => exact pi_int_bool q
  | str _ => exact pi_str_bool q
  | tup _ => exact pi_tup_bool q
  | lst _ => exact pi_lst_bool q
  | dct _ _ => cases k <;> cases hx
  | ref _ => cases k <;> cases hx
  | scr _ => cases k <;> cases hx
  | ty _ => cases k <;> cases hx
theorem lplan_run {sp : List M} {bs : List Bow} {k : Nat} {x : M} {h : HpM} (hp : HpP h) (hn : sp.length ≤ 5) (hB : bs.length ≤ 5) (hx : Pu k x) (hl : ∀ xs, x = .tup xs ∨ x = .lst xs → xs.length ≤ 40) : m__law_is_plan [PM sp bs, x] h = some (.bl (planB sp.length bs x), h) := by
  have main : ∀ xs : List M, (∃ k, ∀ y ∈ xs, Pu k y) → (x = .tup xs ∨ x = .lst xs) → planB sp.length bs x = runB sp.length bs [] [] xs → m__law_is_plan [PM sp bs, x] h = some (.bl (planB sp.length bs x), h) := by
    rintro xs ⟨k', hxs⟩ ex eb
    have hl' := hl xs ex
    rw [eb]
    apply run_of
    refine e_fun rfl ?_
    unfold b__law_is_plan
    walk_at "f"
    refine p_isSeq "tuple" "list" (.inr ⟨rfl, rfl⟩) hx ?_
    rw [show isSeq x = true by rcases ex with rfl | rfl <;> rfl]
    walk_at "f"
    refine e_par ?_
    walk_at "f"
    refine ⟨_, _, rfl, ?_⟩
    walk_at "f"
    refine e_iAT ?_
    walk_at "f"
    refine ⟨xs, ex, ?_⟩
    refine e_over (fun i ρ h' => ∃ (S C : List Int) (v4 : Option M), ρ = [some (PM sp bs), some x, some (.lst (S.map M.int)), some (.lst (C.map M.int)), v4] ∧ h' = h ∧ S.length ≤ i ∧ C.length ≤ i ∧ runB sp.length bs S C (xs.drop i) = runB sp.length bs [] [] xs) ⟨[], [], none, rfl, rfl, by simp, by simp, by simp⟩ ?_ ?_
    · rintro i y ρ h' hy ⟨S, C, v4, rfl, rfl, s1, s2, er⟩
      have hi : i < xs.length := (List.getElem?_eq_some_iff.mp hy).1
      have hpy := hxs y (List.mem_of_getElem? hy)
      rw [drop_get hy] at er
      walk_at "f"
      refine p_isTup hpy ?_
      cases y with
      | tup ys =>
        cases k' with
        | zero => exact hpy.zero.elim
        | succ k' =>
          walk_at "f"
          refine ite_F rfl ?_
          walk_at "f"
          refine ite_b (fun q => ?_) (fun q => ?_)
          · refine ite_t ?_
            walk_at "f"
            refine ⟨?_, rfl⟩
            rw [← er, stp_not]
            intro w k e
            rw [mv2] at e
            injection e with e
            subst e
            simp at q
          · obtain ⟨a, b, rfl⟩ := of2 q
            have ha := hpy.un a (by simp)
            have hb := hpy.un b (by simp)
            walk_at "f"
            refine p_t1 ?_
            walk_at "f"
            refine p_isBool hb ?_
            walk_at "f"
            refine ite_b (fun q1 => ?_) (fun q1 => ?_)
            · walk_at "f"
              refine ⟨?_, rfl⟩
              rw [← er, stp_not]
              intro w k e
              rw [mv2] at e
              cases e
              cases q1
            · walk_at "f"
              refine moves_in hp hn hB ?_
              walk_at "f"
              refine p_notInMv ha hb (by intro z e; subst e; cases q1) ?_
              walk_at "f"
              refine ite_b (fun q2 => ?_) (fun q2 => ?_)
              · walk_at "f"
                refine ⟨?_, rfl⟩
                rw [← er, stp_not]
                intro w k e
                rw [mv2] at e
                cases e
                cases z : stp sp.length bs S C w k with
                | none => rfl
                | some p =>
                  have := any_mvIs.mpr ⟨w, k, rfl, rfl, mem_moves.mpr (show (stp sp.length bs S C w k).isSome = true by rw [z]; rfl)⟩
                  rw [this] at q2
                  cases q2
              · obtain ⟨w, k, rfl, rfl, hm⟩ := any_mvIs.mp (show (movesL sp.length bs S C).any (mvIs a b) = true by simpa using q2)
                obtain ⟨⟨S', C'⟩, z⟩ := Option.isSome_iff_exists.mp (mem_moves.mp hm)
                have := stp_len z
                rw [← mv2, runB_mv z] at er
                rw [← mv2]
                walk_at "f"
                refine lbehind_in (by omega) (by omega) z ?_
                walk_at "f"
                exact ⟨S', C', _, rfl, rfl, by omega, by omega, er⟩
      | dct _ _ => cases k' <;> cases hpy
      | ref _ => cases k' <;> cases hpy
      | scr _ => cases k' <;> cases hpy
      | ty _ => cases k' <;> cases hpy
      | _ =>
        walk_at "f"
        refine ite_T rfl ?_
        refine ite_t ?_
        walk_at "f"
        refine ⟨?_, rfl⟩
        rw [← er, stp_not]
        intro w k e
        cases e
    · rintro ρ h' ⟨S, C, v4, rfl, rfl, s1, s2, er⟩
      rw [List.drop_eq_nil_of_le (Nat.le_refl _)] at er
      have e : runB sp.length bs S C [] = ((((S.map M.int).length : Int) == (sp.length : Int)) && (((C.map M.int).length : Int) == ((bs.map bowM).length : Int))) := by
        show ((S.length == sp.length) && (C.length == bs.length)) = _
        rw [List.length_map, List.length_map, List.length_map, Bool.eq_iff_iff]
        simp
        omega
      rw [← er, e]
      unfold PM
      walk_at "f"
      refine p_hd ?_
      walk_at "f"
      refine ite_b (fun q => ?_) (fun q => ?_)
      · rw [q]
        walk_at "f"
        refine p_t1 ?_
        walk_at "f"
        exact ⟨rfl, rfl⟩
      · rw [q]
        walk_at "f"
        exact ⟨rfl, rfl⟩
  cases x with
  | dct _ _ => cases k <;> cases hx
  | ref _ => cases k <;> cases hx
  | scr _ => cases k <;> cases hx
  | ty _ => cases k <;> cases hx
  | tup xs =>
    cases k with
    | zero => exact hx.zero.elim
    | succ k => exact main xs ⟨k, hx.un⟩ (.inl rfl) rfl
  | lst xs =>
    cases k with
    | zero => cases hx
    | succ k => exact main xs ⟨k, hx.unL⟩ (.inr rfl) rfl
  | _ =>
    apply run_of
    refine e_fun rfl ?_
    unfold b__law_is_plan
    walk_at "f"
    refine p_isSeq "tuple" "list" (.inr ⟨rfl, rfl⟩) hx ?_
    unfold isSeq
    walk_at "f"
    exact ⟨rfl, rfl⟩
theorem nodup_le : ∀ {S L : List Int}, S.Nodup → (∀ x ∈ S, x ∈ L) → S.length ≤ L.length
  | [], _, _, _ => Nat.zero_le _
  | a :: S, L, h, hs => by
    have ha := hs a List.mem_cons_self
    have h1 := nodup_le (S := S) (L := L.erase a) (List.nodup_cons.mp h).2 fun x hx => (List.mem_erase_of_ne (by intro e; subst e; exact (List.nodup_cons.mp h).1 hx)).mpr (hs x (List.mem_cons_of_mem _ hx))
    rw [List.length_erase_of_mem ha] at h1
    have h2 := List.length_pos_of_mem ha
    rw [List.length_cons]
    omega
theorem nodup_snoc {S : List Int} {k : Int} (h : S.Nodup) (hk : k ∉ S) : (S ++ [k]).Nodup := by
  rw [List.nodup_append]
  refine ⟨h, by simp, ?_⟩
  intro a ha b hb e
  cases List.mem_singleton.mp hb
  exact hk (e ▸ ha)
def rng (n : Nat) : List Int := (List.range n).map fun (i : Nat) => (i : Int)
theorem mem_rng {n : Nat} {x : Int} : x ∈ rng n ↔ 0 ≤ x ∧ x < n := by
  unfold rng
  rw [List.mem_map]
  constructor
  · rintro ⟨i, hi, rfl⟩; rw [List.mem_range] at hi; omega
  · rintro ⟨h0, h1⟩
    obtain ⟨j, rfl⟩ := Int.eq_ofNat_of_zero_le h0
    exact ⟨j, List.mem_range.mpr (by omega), rfl⟩
theorem rng_len {n : Nat} : (rng n).length = n := by unfold rng; simp
theorem rng_nodup {n : Nat} : (rng n).Nodup := by
  unfold rng
  refine List.Pairwise.map _ (fun a b h e => h (by omega)) List.nodup_range
def Gd (n : Nat) (bs : List Bow) (S C : List Int) : Prop := S.Nodup ∧ C.Nodup ∧ (∀ x ∈ S, x ∈ rng n) ∧ ∀ x ∈ C, x ∈ rng bs.length
def BwOk (n : Nat) (bs : List Bow) : Prop := ∀ p ∈ bs, p.1 ∈ rng n ∧ p.2.1 ∈ rng n
theorem bw_in {n : Nat} {bs : List Bow} (h : BwOk n bs) {k : Int} (h0 : 0 ≤ k) (h1 : k < bs.length) : bA bs k ∈ rng n ∧ bB bs k ∈ rng n := by
  obtain ⟨j, rfl⟩ := Int.eq_ofNat_of_zero_le h0
  obtain ⟨b, hb⟩ : ∃ b, bs[j]? = some b := ⟨_, List.getElem?_eq_getElem (by omega)⟩
  obtain ⟨eA, eB⟩ := bow_at hb
  rw [eA, eB]
  exact h b (List.mem_of_getElem? hb)
theorem gd_len {n : Nat} {bs : List Bow} {S C : List Int} (h : Gd n bs S C) : S.length ≤ n ∧ C.length ≤ bs.length := by
  have h1 := nodup_le h.1 h.2.2.1
  have h2 := nodup_le h.2.1 h.2.2.2
  rw [rng_len] at h1 h2
  exact ⟨h1, h2⟩
theorem in_snoc {S L : List Int} {k : Int} (h : ∀ x ∈ S, x ∈ L) (hk : k ∈ L) : ∀ x ∈ S ++ [k], x ∈ L := by
  intro x hx
  rcases List.mem_append.mp hx with hx | hx
  · exact h x hx
  · rw [List.mem_singleton.mp hx]; exact hk
theorem stp_good {n : Nat} {bs : List Bow} {S C S' C' : List Int} {w : Str} {k : Int} (hb : BwOk n bs) (g : Gd n bs S C) (h : stp n bs S C w k = some (S', C')) : Gd n bs S' C' ∧ S.length + C.length < S'.length + C'.length := by
  obtain ⟨g1, g2, g3, g4⟩ := g
  unfold stp at h
  split at h
  · split at h
    · rename_i q
      cases h
      exact ⟨⟨nodup_snoc g1 q.2.2, g2, in_snoc g3 (mem_rng.mpr ⟨q.1, q.2.1⟩), g4⟩, by simp⟩
    · cases h
  · split at h
    · rename_i q
      have hC := nodup_snoc g2 q.2.2
      have hC' := in_snoc g4 (mem_rng.mpr ⟨q.1, q.2.1⟩)
      have hi := bw_in hb q.1 q.2.1
      split at h
      · split at h
        · cases h
          exact ⟨⟨g1, hC, g3, hC'⟩, by simp⟩
        · cases h
      · split at h
        · split at h
          · rename_i r
            cases h
            exact ⟨⟨nodup_snoc g1 r.2, hC, in_snoc g3 hi.2, hC'⟩, by simp; omega⟩
          · cases h
        · split at h
          · split at h
            · rename_i r
              cases h
              exact ⟨⟨nodup_snoc g1 r.2, hC, in_snoc g3 hi.1, hC'⟩, by simp; omega⟩
            · cases h
          · cases h
    · cases h
theorem no_moves {n : Nat} {bs : List Bow} {S C : List Int} (hb : BwOk n bs) (g : Gd n bs S C) (h : movesL n bs S C = []) : S.length = n ∧ C.length = bs.length := by
  have no : ∀ w k, stp n bs S C w k = none := by
    intro w k
    cases z : stp n bs S C w k with
    | none => rfl
    | some p =>
      have := mem_moves.mpr (show (stp n bs S C w k).isSome = true by rw [z]; rfl)
      rw [h] at this
      cases this
  have hS : ∀ x ∈ rng n, x ∈ S := by
    intro x hx
    have := no "lay" x
    rw [stp_lay] at this
    by_cases q : x ∈ S
    · exact q
    · rw [if_pos ⟨(mem_rng.mp hx).1, (mem_rng.mp hx).2, q⟩] at this
      cases this
  have hC : ∀ x ∈ rng bs.length, x ∈ C := by
    intro x hx
    have := no "meet" x
    rw [stp_meet] at this
    by_cases q : x ∈ C
    · exact q
    · have hi := bw_in hb (mem_rng.mp hx).1 (mem_rng.mp hx).2
      rw [if_pos ⟨(mem_rng.mp hx).1, (mem_rng.mp hx).2, q⟩, if_pos ⟨hS _ hi.1, hS _ hi.2⟩] at this
      cases this
  have a1 := nodup_le rng_nodup hS
  have a2 := nodup_le rng_nodup hC
  have a3 := gd_len g
  rw [rng_len] at a1 a2
  omega
theorem p_neMv {R : M → Prop} {h : HpM} {ms : List (Str × Int)} (q : R (.bl (!ms.isEmpty))) : Enp (opNe (.lst (ms.map mv)) (.lst []) h) R := by
  refine ⟨_, ?_, q⟩
  unfold opNe
  have e : toD h (.lst (ms.map mv)) = some (.lst (ms.map mvD)) := by
    show (toDBs (lookD h 20) (ms.map mv)).map D.lst = _
    rw [show toDBs (lookD h 20) (ms.map mv) = some (ms.map mvD) from toDs_mv ms]; rfl
  rw [e, Option.bind_some]
  show (if D.deeps (ms.map mvD) + 1 ≤ 150 then some (M.bl (!deqs (ms.map mvD) [])) else none) = _
  rw [if_pos (by have := deeps_mv ms; omega)]
  cases ms with
  | nil => rfl
  | cons a ms => rfl
theorem atI_last {xs : List M} {y : M} : atI (xs ++ [y]) (-1) = some y := by
  unfold atI ixN
  rw [if_neg (by omega), if_pos (by simp; omega)]
  rw [Option.bind_some, show (-1 + ((xs ++ [y]).length : Int)).toNat = xs.length by rw [List.length_append, List.length_singleton]; omega]
  simp
theorem hpP_app {g : HpM} {xs : List M} {k : Nat} (h : HpP g) (hx : ∀ y ∈ xs, Pu k y) : HpP (g ++ [.lst xs]) := by
  intro o ho
  rcases List.mem_append.mp ho with ho | ho
  · exact h o ho
  · rw [List.mem_singleton.mp ho]; exact ⟨xs, k, rfl, hx⟩
theorem mvs_pu {ms : List (Str × Int)} (h : ∀ q ∈ ms, q.1.length ≤ 100) : ∀ y ∈ ms.map mv, Pu 1 y := by
  intro y hy
  obtain ⟨p, hp, rfl⟩ := List.mem_map.mp hy
  exact pu_mv p (h p hp)
def muP (n : Nat) (_ : EnvM) (h : HpM) : Nat := match h[n]? with | some (.lst xs) => 20 - xs.length | _ => 0
theorem muP_at {g : HpM} {xs : List M} {n : Nat} {ρ : EnvM} (h : n = g.length) : muP n ρ (g ++ [.lst xs]) = 20 - xs.length := by unfold muP; rw [at1 h]
theorem plan_in {sp : List M} {bs : List Bow} {g : HpM} {p : Nat} {c : Int} {R : M → HpM → Prop} (hh : In g p c) (hc : c < 900000000) (hn0 : 1 ≤ sp.length) (hn : sp.length ≤ 5) (hB : bs.length ≤ 5) (hb : BwOk sp.length bs)
    (k : ∀ (ms : List (Str × Int)) (g' : HpM), (∀ q ∈ ms, q.1.length ≤ 100) → 1 ≤ ms.length → ms.length ≤ 10 → runB sp.length bs [] [] (ms.map mv) = true → In g' p (c + 20) → g'.length = g.length → R (.lst (ms.map mv)) g') : Ens (m__law_plan [.ref p, PM sp bs] g) R := by
  refine e_shutP ?_
  suffices z : Ens (mFun 2 4 b__law_plan [.ref p, PM sp bs] g) fun d h1 => ∃ (g' : HpM) (ms : List (Str × Int)), h1 = g' ++ [.lst (ms.map mv)] ∧ g'.length = g.length ∧ d = .ref g.length ∧ (∀ q ∈ ms, q.1.length ≤ 100) ∧ 1 ≤ ms.length ∧ ms.length ≤ 10 ∧ runB sp.length bs [] [] (ms.map mv) = true ∧ In g' p (c + 20) by
    refine z.mono ?_
    rintro d h1 ⟨g', ms, rfl, hl, rfl, h1, h2, h3, h4, h5⟩
    exact ⟨g', _, 1, rfl, hl, h5.2.p, mvs_pu h1, rfl, k ms g' h1 h2 h3 h4 h5 hl⟩
  clear k
  refine e_fun rfl ?_
  unfold b__law_plan
  walk_at "f"
  refine e_par3 ?_
  walk_at "f"
  refine ⟨_, _, _, rfl, ?_⟩
  walk_at "f"
  refine moves_in (S := []) (C := []) (hpP_app (k := 0) hh.2.p (by simp)) hn hB ?_
  walk_at "f"
  refine e_while (fun ρ h' => ∃ (S C : List Int) (ms : List (Str × Int)) (g' : HpM), Gd sp.length bs S C ∧ (∀ r, runB sp.length bs [] [] (ms.map mv ++ r) = runB sp.length bs S C r) ∧ (∀ q ∈ ms, q.1.length ≤ 100) ∧ S.length + C.length ≤ 2 * ms.length ∧ ms.length ≤ S.length + C.length ∧ In g' p (c + ms.length) ∧ g'.length = g.length ∧ h' = g' ++ [.lst (ms.map mv)] ∧
      ρ = [some (.ref p), some (PM sp bs), some (.ref g.length), some (.lst (S.map M.int)), some (.lst (C.map M.int)), some (.lst ((movesL sp.length bs S C).map mv))]) (muP g.length) ?_
    ⟨[], [], [], g, ⟨.nil, .nil, by simp, by simp⟩, fun r => rfl, by simp, by simp, by simp, hh.mono (by simp), rfl, rfl, rfl⟩ (by rw [muP_at rfl]; omega)
  rintro ρ h' ⟨S, C, ms, g', gd, er, hw, s1, s2, hh', hl, rfl, rfl⟩
  have hlen := gd_len gd
  have hm10 : ms.length ≤ 10 := by omega
  walk_at "f"
  refine p_neMv ?_
  walk_at "f"
  refine ite_b (fun q => ?_) (fun q => ?_)
  · have hpos : 0 < (movesL sp.length bs S C).length := by
      cases z : movesL sp.length bs S C with
      | nil => rw [z] at q; cases q
      | cons _ _ => simp
    have hml := moves_len (n := sp.length) (bs := bs) (S := S) (C := C)
    walk_at "f"
    refine e_mt ?_
    walk_at "f"
    refine ⟨isL_at (at1 hl.symm), ?_⟩
    walk_at "f"
    refine take_in hh' (by rw [List.length_map]; omega) (by rw [List.length_map]; omega) (by omega) fun r g2 hr0 hr1 hh2 hl2 => ?_
    walk_at "f"
    refine p_any hr0 hr1 fun x hx => ?_
    obtain ⟨⟨w, kk⟩, hm, rfl⟩ := List.mem_map.mp hx
    obtain ⟨⟨S', C'⟩, z⟩ := Option.isSome_iff_exists.mp (mem_moves.mp hm)
    have sl := stp_len z
    obtain ⟨gd', sl'⟩ := stp_good hb gd z
    have hlen' := gd_len gd'
    have hwk := moves_word hm
    walk_at "f"
    refine e_append (at1 (by omega)) (by rw [List.length_map]; omega) ?_
    rw [set1 (by omega), show ms.map mv ++ [mv (w, kk)] = (ms ++ [(w, kk)]).map mv by simp]
    walk_at "f"
    refine p_ixR (at1 (by omega)) (d := mv (w, kk)) (by rw [List.map_append]; exact atI_last) ?_
    walk_at "f"
    refine lbehind_in (by omega) (by omega) z ?_
    walk_at "f"
    have hw' : ∀ q ∈ ms ++ [(w, kk)], q.1.length ≤ 100 := by
      intro q hq
      rcases List.mem_append.mp hq with hq | hq
      · exact hw q hq
      · rw [List.mem_singleton.mp hq]; exact hwk
    refine moves_in (hpP_app hh2.2.p (mvs_pu hw')) hn hB ?_
    walk_at "f"
    refine ⟨⟨S', C', ms ++ [(w, kk)], g2, gd', fun r => ?_, hw', by simp; omega, by simp; omega, hh2.mono (by simp; omega), by omega, rfl, rfl⟩, ?_⟩
    · rw [List.map_append, List.append_assoc, er]
      exact runB_mv z
    · rw [muP_at (by omega), muP_at (by omega)]
      simp
      omega
  · have he : movesL sp.length bs S C = [] := by
      cases z : movesL sp.length bs S C with
      | nil => rfl
      | cons _ _ => rw [z] at q; cases q
    have hwh := no_moves hb gd he
    walk_at "f"
    refine ⟨g', ms, rfl, hl, rfl, hw, by omega, hm10, ?_, hh'.mono (by omega)⟩
    have := er []
    rw [List.append_nil] at this
    rw [this]
    show ((S.length == sp.length) && (C.length == bs.length)) = true
    rw [hwh.1, hwh.2]
    simp
theorem ite_J {c : Bool} {x y : Option (Out × HpM)} {S : Out → HpM → Prop} (J : Out → HpM → Prop) (h1 : c = true → Ens x J) (h2 : c = false → Ens y J) (h3 : ∀ o h, J o h → S o h) : if c = true then Ens x S else Ens y S := by
  cases c
  · exact (h2 rfl).mono h3
  · exact (h1 rfl).mono h3
theorem pattern_in {g : HpM} {p : Nat} {c : Int} {R : M → HpM → Prop} (hh : In g p c) (hc : c < 900000000)
    (k : ∀ (sp : List M) (bs : List Bow) (g' : HpM), 1 ≤ sp.length → sp.length ≤ 5 → bs.length ≤ 5 → BwOk sp.length bs → Hp3 g' → R (PM sp bs) g') : Ens (m__law_pattern [.ref p] g) R := by
  refine e_shut ?_
  refine e_fun rfl ?_
  unfold b__law_pattern
  walk_at "f"
  rw [← List.append_nil g]
  refine take_in hh (by decide) (by decide) (by omega) fun r1 g1 h10 h11 hh1 hl1 => ?_
  walk_at "f"
  refine take_in hh1 (by decide) (by decide) (by omega) fun r2 g2 h20 h21 hh2 hl2 => ?_
  walk_at "f"
  refine ite_J (fun o h' => ∃ z : Int, 1 ≤ z ∧ z ≤ 5 ∧ o = .nx [some (.ref p), some (.int z), none, none, none, none] ∧ h' = g2) (fun _ => ?_) (fun _ => ?_) ?_
  · walk_at "f"; exact ⟨5, by decide, by decide, rfl, List.append_nil _⟩
  · walk_at "f"; exact ⟨1 + r1, by omega, by omega, rfl, List.append_nil _⟩
  rintro o g2 ⟨z, hz1, hz5, rfl, rfl⟩
  walk_at "f"
  refine p_mulT hz1 hz5 ?_
  walk_at "f"
  have hsl : (List.replicate z.toNat (M.tup [.non, .tup [.str "any"]])).length = z.toNat := List.length_replicate
  have hsp : ∀ y ∈ List.replicate z.toNat (M.tup [.non, .tup [.str "any"]]), Pu 2 y := by
    intro y hy
    rw [List.eq_of_mem_replicate hy]
    exact pu2 Pu.non (pu1 (Pu.str (by decide +kernel)))
  generalize List.replicate z.toNat (M.tup [.non, .tup [.str "any"]]) = sp at hsl hsp ⊢
  refine e_iR1 ?_
  walk_at "f"
  refine take_in hh2 (by decide) (by decide) (by omega) fun r3 g3 h30 h31 hh3 hl3 => ?_
  walk_at "f"
  refine ⟨⟨by omega, by omega⟩, ?_⟩
  refine e_over (fun i ρ h' => ∃ (bs : List Bow) (g' : HpM) (v4 v5 : Option M), bs.length = i ∧ BwOk sp.length bs ∧ (∀ b ∈ bs, Pu 1 b.2.2.1 ∧ Pu 1 b.2.2.2) ∧ In g' p (c + 3 + 4 * i) ∧ g'.length = g2.length ∧ h' = g' ++ [.lst (bs.map bowM)] ∧ ρ = [some (.ref p), some (.int z), some (.tup sp), some (.ref g2.length), v4, v5])
    ⟨[], g3, none, none, rfl, by intro b hb; (cases hb), by simp, hh3.mono (by omega), hl3, rfl, rfl⟩ ?_ ?_
  · rintro i x ρ h' hx ⟨bs, g', v4, v5, hbl, hbo, hbp, hh', hl', rfl, rfl⟩
    have hi : i < 6 := by have := (List.getElem?_eq_some_iff.mp hx).1; simp at this; omega
    walk_at "f"
    refine take_in hh' (by decide) (by decide) (by omega) fun r4 g4 h40 h41 hh4 hl4 => ?_
    walk_at "f"
    refine p_any h40 h41 fun y hy => ?_
    have hy0 : Pu 0 y := by
      simp only [List.mem_cons, List.not_mem_nil, or_false] at hy
      rcases hy with rfl | rfl
      · exact Pu.str (by decide +kernel)
      · exact Pu.non
    clear hy
    walk_at "f"
    refine e_mt ?_
    walk_at "f"
    refine ⟨isL_at (at1 (by omega)), ?_⟩
    walk_at "f"
    refine take_in hh4 (by omega) (by omega) (by omega) fun r5 g5 h50 h51 hh5 hl5 => ?_
    walk_at "f"
    refine take_in hh5 (by omega) (by omega) (by omega) fun r6 g6 h60 h61 hh6 hl6 => ?_
    walk_at "f"
    refine take_in hh6 (by decide) (by decide) (by omega) fun r7 g7 h70 h71 hh7 hl7 => ?_
    walk_at "f"
    refine p_any h70 h71 fun s hs => ?_
    have hs0 : Pu 1 s := by
      simp only [List.mem_cons, List.not_mem_nil, or_false] at hs
      rcases hs with rfl | rfl <;> exact Pu.str (by decide +kernel)
    clear hs
    walk_at "f"
    refine e_append (at1 (by omega)) (by rw [List.length_map]; omega) ?_
    rw [set1 (by omega)]
    walk_at "f"
    refine ⟨bs ++ [(r5, r6, s, .tup [.str "step", y, .str "forth"])], g7, _, _, by simp [hbl], ?_, ?_, hh7.mono (by omega), by omega, by rw [List.map_append]; rfl, rfl⟩
    · intro b hb
      rcases List.mem_append.mp hb with hb | hb
      · exact hbo b hb
      · rw [List.mem_singleton.mp hb]
        exact ⟨mem_rng.mpr ⟨h50, (by omega : r5 < (sp.length : Int))⟩, mem_rng.mpr ⟨h60, (by omega : r6 < (sp.length : Int))⟩⟩
    · intro b hb
      rcases List.mem_append.mp hb with hb | hb
      · exact hbp b hb
      · rw [List.mem_singleton.mp hb]
        exact ⟨hs0, pu3 (Pu.str (by decide +kernel)) hy0 (Pu.str (by decide +kernel))⟩
  · rintro ρ h' ⟨bs, g', v4, v5, hbl, hbo, hbp, hh', hl', rfl, rfl⟩
    have hb5 : bs.length ≤ 5 := by rw [hbl]; simp; omega
    walk_at "f"
    refine p_tupR (at1 (by omega)) ?_
    walk_at "f"
    refine ⟨g', [.lst (bs.map bowM)], 4, rfl, by rw [List.append_nil]; omega, hh'.2, ?_, k sp bs g' (by omega) (by omega) hb5 hbo hh'.2⟩
    refine pu3 (Pu.tup (by omega) hsp) (Pu.tup (by rw [List.length_map]; omega) ?_) (Pu.tup (by simp) (by simp))
    intro y hy
    obtain ⟨b, hb, rfl⟩ := List.mem_map.mp hy
    exact pu4 Pu.int Pu.int (hbp b hb).1 (hbp b hb).2
theorem p_ixC {R : M → Prop} {h : HpM} {ns : List Int} {i : Nat} {v : Int} (e : ns[i]? = some v) (q : R (.int v)) : Enp (ixM (.scr ns) (.int (i : Int)) h) R := by
  refine ⟨.int v, ?_, q⟩
  show (seqR h (.scr ns)).bind (fun xs => atI xs (i : Int)) = _
  show atI (ns.map M.int) (i : Int) = _
  rw [atI_nat (show (ns.map M.int)[i]? = some (.int v) by rw [List.getElem?_map, e]; rfl)]
theorem box_fact {h : HpM} {v : Int} {b : Bool} {i : Nat} (h3 : Hp3 h) (hi : i ≤ 20) : In (h ++ [.lst [.int ((if v < 0 then -v else v) * if b = true then 1 else 0), .int (v % 2305843009213693951), .int (7 * (i : Int))]]) h.length 140 := by
  refine ⟨⟨_, _, _, at1 rfl, ?_, Int.emod_nonneg _ (by decide), ?_, by omega, by omega⟩, ?_⟩
  · apply Int.mul_nonneg
    · split <;> omega
    · split <;> omega
  · have := Int.emod_lt_of_pos v (b := 2305843009213693951) (by decide)
    omega
  · intro o ho
    rcases List.mem_append.mp ho with ho | ho
    · exact h3 o ho
    · rw [List.mem_singleton.mp ho]; exact ⟨[_, _, _], rfl⟩
theorem box_in {ns : List Int} {i : Nat} {h : HpM} {R : M → HpM → Prop} (h3 : Hp3 h) (hi : i ≤ 20) (k : ∀ g, In g h.length 140 → R (.ref h.length) g) : Ens (m__law_box [.scr ns, .int (i : Int)] h) R := by
  refine e_fun rfl ?_
  unfold b__law_box
  walk_at "es"
  refine ite_b (fun q => ?_) (fun q => ?_)
  · have hi' : i < ns.length := by have := of_decide_eq_true q; omega
    walk_at "es"
    refine p_ixC (List.getElem?_eq_getElem hi') ?_
    generalize ns[i] = v
    walk_at "es"
    exact ⟨by simp, k _ (box_fact h3 hi)⟩
  · walk_at "es"
    exact ⟨by simp, k _ (box_fact h3 hi)⟩
local macro_rules | `(tactic| walk_at "k") => `(tactic| (with_reducible first
  | refine e_seq ?_ | refine e_sqN ?_ | refine e_sqR ?_ | refine e_sqB ?_ | refine e_sqC ?_ | refine e_lqN ?_ | refine e_lqC ?_ | refine e_lqB ?_ | refine e_lqR ?_ | refine e_fqR ?_ | refine e_fqN ?_ | refine e_sif ?_ | refine e_asg ?_ | refine e_nm ?_ | refine e_ret ?_ | refine e_retN ?_ | refine e_drop ?_ | refine e_next ?_ | refine e_brk ?_ | refine e_cont ?_
  | refine e_c ?_ | refine e_op ?_ | refine e_un ?_ | refine e_cb ?_ | refine e_call ?_ | refine e_nil ?_ | refine e_cons ?_ | refine e_tV ?_ | refine e_eb ?_ | refine e_tAnd ?_ | refine e_tOr ?_ | refine e_tNot ?_ | refine e_and ?_ | refine e_or ?_ | refine e_not ?_ | refine e_ifE ?_ | refine e_chain ?_ | refine e_tTrue ?_
  | refine ite_t ?_ | refine ite_f ?_ | refine e_oNo ?_ | refine e_oSome ?_ | refine e_sl ?_ | refine e_comp ?_ | refine e_for ?_ | refine e_body ?_ | refine e_gnil ?_ | refine e_gcons ?_
  | (refine e_gtp ?h1 ?_; (case h1 => with_unfolding_all rfl))
  | (refine' e_var ?hv ?_; (case hv => with_unfolding_all rfl))
  | refine ite_nT ?_ | refine ite_nF ?_ | refine p_eqTT ?_ | refine p_eqTF ?_ | refine p_eqFT ?_ | refine p_eqFF ?_ | refine p_neTT ?_ | refine p_neTF ?_ | refine p_neFT ?_ | refine p_neFF ?_ | refine p_isTT ?_ | refine p_isTF ?_ | refine p_isFT ?_ | refine p_isFF ?_ | refine p_isNotTT ?_ | refine p_isNotTF ?_ | refine p_isNotFT ?_ | refine p_isNotFF ?_
  | refine p_addI ?_ | refine p_subI ?_ | refine p_ltI ?_ | refine p_leI ?_ | refine p_gtI ?_ | refine p_geI ?_ | refine p_ltS ?_ | refine p_eqI ?_ | refine p_neI ?_ | refine p_eqS ?_ | refine p_neS ?_ | refine p_eqB ?_ | refine p_neB ?_ | refine p_isN ?_ | refine p_isNotN ?_ | refine p_isB ?_ | refine p_isNotB ?_ | refine p_neg ?_ | refine p_abs ?_ | refine p_intI ?_ | refine p_intB ?_ | refine p_min ?_ | refine p_max ?_
  | refine p_lenL ?_ | refine p_lenT ?_ | refine p_lenC ?_ | refine p_slL ?_ | refine p_slC ?_ | refine p_slT ?_
  | (refine p_ixL ?h1 ?_; (case h1 => with_unfolding_all rfl))
  | (refine p_ixT ?h1 ?_; (case h1 => with_unfolding_all rfl))
  | (refine p_mulI ?h1 ?_; (case h1 => omega))
  | (refine p_mod ?h1 ?_; (case h1 => omega))
  | (refine p_div ?h1 ?_; (case h1 => omega))
  | (refine p_pow ?h1 ?_; (case h1 => decide))
  | refine pi_non_str ?_ | refine pi_non_int ?_ | refine pi_non_bool ?_ | refine pi_non_tuple ?_ | refine pi_non_list ?_ | refine pi_bl_str ?_ | refine pi_bl_int ?_ | refine pi_bl_bool ?_ | refine pi_bl_tuple ?_ | refine pi_bl_list ?_ | refine pi_int_str ?_ | refine pi_int_int ?_ | refine pi_int_bool ?_ | refine pi_int_tuple ?_ | refine pi_int_list ?_ | refine pi_str_str ?_ | refine pi_str_int ?_ | refine pi_str_bool ?_ | refine pi_str_tuple ?_ | refine pi_str_list ?_ | refine pi_tup_str ?_ | refine pi_tup_int ?_ | refine pi_tup_bool ?_ | refine pi_tup_tuple ?_ | refine pi_tup_list ?_ | refine pi_lst_str ?_ | refine pi_lst_int ?_ | refine pi_lst_bool ?_ | refine pi_lst_tuple ?_ | refine pi_lst_list ?_ | refine pi_scr_str ?_ | refine pi_scr_int ?_ | refine pi_scr_bool ?_ | refine pi_scr_tuple ?_ | refine pi_scr_list ?_ | refine pi_dct_str ?_ | refine pi_dct_int ?_ | refine pi_dct_bool ?_ | refine pi_dct_tuple ?_ | refine pi_dct_list ?_
  | (refine e_tup ⟨?h1, ?_⟩; (case h1 => decide))
  | refine e_tup ?_ | refine e_lst ?_))
local macro_rules | `(tactic| walk_at "ks") => `(tactic| repeat (walk_at "k"))
local macro_rules | `(tactic| walk_at "kf") => `(tactic| repeat (first | (with_reducible refine e_oInt ?_) | (with_reducible refine p_l0 ?_) | (with_reducible refine p_l1 ?_) | (with_reducible refine p_l2 ?_) | (with_reducible refine p_l3 ?_) | walk_at "k" | (with_reducible refine len_ok (by simp) ?_) | (with_reducible refine ⟨_, rfl, ?_⟩)))
def Qd (d : M) : Prop := Pu 4 d ∧ ∀ xs, d = .tup xs ∨ d = .lst xs → xs.length ≤ 40
theorem al_nil {P : M → Prop} : ∀ y ∈ ([] : List M), P y := fun y h => by cases h
theorem al_cons {P : M → Prop} {a : M} {l : List M} (h : P a) (hl : ∀ y ∈ l, P y) : ∀ y ∈ a :: l, P y := fun y hy => by
  cases hy with
  | head => exact h
  | tail _ hy => exact hl y hy
theorem al_app {P : M → Prop} {a b : List M} (h : ∀ y ∈ a, P y) (hl : ∀ y ∈ b, P y) : ∀ y ∈ a ++ b, P y := fun y hy => (List.mem_append.mp hy).elim (h y) (hl y)
theorem qd_lst {xs : List M} (h : xs.length ≤ 40) (hx : ∀ y ∈ xs, Pu 3 y) : Qd (.lst xs) := ⟨Pu.lst (by omega) hx, fun ys e => by
  rcases e with e | e
  · cases e
  · cases e; exact h⟩
theorem qd_tup {xs : List M} (h : xs.length ≤ 40) (hx : ∀ y ∈ xs, Pu 3 y) : Qd (.tup xs) := ⟨Pu.tup (by omega) hx, fun ys e => by
  rcases e with e | e
  · cases e; exact h
  · cases e⟩
theorem qd_flat {x : M} (h : Pu 4 x) (hs : isSeq x = false) : Qd x := ⟨h, fun xs e => by rcases e with rfl | rfl <;> cases hs⟩
theorem e_lstHQ {mas : FA} {ρ : EnvM} {h : HpM} {R : M → HpM → Prop} (q : Ens (mas ρ h) fun xs h1 => xs.length ≤ 16777216 ∧ (∀ y ∈ xs, Qd y) ∧ ∀ ys : List M, ys.length = xs.length → (∀ y ∈ ys, Qd y) → R (.ref h1.length) (h1 ++ [.lst ys])) : Ens (mLstH mas ρ h) R := e_lstH (q.mono fun xs h1 q => ⟨q.1, q.2.2 xs rfl q.2.1⟩)
theorem take_at {h0 g t : HpM} {p : Nat} {c many : Int} {R : M → HpM → Prop} (e : h0 = g ++ t) (hh : In g p c) (m1 : 0 < many) (m2 : many < 1073741824) (m3 : c < 1000000000)
    (k : ∀ r g', 0 ≤ r → r < many → In g' p (c + 1) → g'.length = g.length → R (.int r) (g' ++ t)) : Ens (m__law_take [.ref p, .int many] h0) R := by subst e; exact take_in hh m1 m2 m3 k
theorem at3 {g : HpM} {a b d : MO} {i : Nat} (hi : i = g.length + 2) : (g ++ [a, b, d])[i]? = some d := by subst hi; simp
theorem at4 {g : HpM} {a b d e : MO} {i : Nat} (hi : i = g.length + 3) : (g ++ [a, b, d, e])[i]? = some e := by subst hi; simp
theorem at5 {g : HpM} {a b d e f : MO} {i : Nat} (hi : i = g.length + 4) : (g ++ [a, b, d, e, f])[i]? = some f := by subst hi; simp
theorem p_anyR {R : M → Prop} {h : HpM} {k : Nat} {xs : List M} {r : Int} (e : h[k]? = some (.lst xs)) (h0 : 0 ≤ r) (h1 : r < xs.length) (q : ∀ x ∈ xs, R x) : Enp (ixM (.ref k) (.int r) h) R := by
  obtain ⟨j, rfl⟩ := Int.eq_ofNat_of_zero_le h0
  have hj : j < xs.length := by omega
  exact p_ixR e (atI_nat (List.getElem?_eq_getElem hj)) (q _ (List.getElem_mem hj))
def inS : M → Bool
  | .str z => decide (z.length ≤ 100)
  | _ => false
theorem inS_str {x : M} (h : inS x = true) : ∃ z, x = .str z ∧ z.length ≤ 100 := by
  cases x with
  | str z => exact ⟨z, rfl, of_decide_eq_true h⟩
  | _ => cases h
local macro_rules | `(tactic| walk_at "h") => `(tactic| repeat (first | (with_reducible refine e_oInt ?_) | (with_reducible refine p_l (by assumption) ?_) | (with_reducible refine p_hd ?_) | (with_reducible refine p_t1 ?_) | (with_reducible refine p_listT ?_) | (with_reducible refine p_addL (by (try simp only [List.length_append, List.length_cons, List.length_nil, List.length_reverse]); omega) ?_) | walk_at "k" | (with_reducible refine len_ok (by (try simp only [List.length_append, List.length_cons, List.length_nil]); omega) ?_) | (with_reducible refine ⟨_, rfl, ?_⟩)))
local macro_rules | `(tactic| walk_at "q") => `(tactic| repeat' (first | assumption | exact Pu.int | exact Pu.non | exact Pu.bl | exact al_nil | (with_reducible refine al_app ?_ ?_) | (with_reducible refine al_cons ?_ ?_) | (with_reducible refine qd_lst (by (try simp only [List.length_append, List.length_cons, List.length_nil, List.length_reverse]); omega) ?_) | (with_reducible refine Pu.str ?_) | (with_reducible refine pu1 ?_) | (with_reducible refine pu2 ?_ ?_) | (with_reducible refine pu3 ?_ ?_ ?_) | decide +kernel))
theorem bent_in {ms : List (Str × Int)} {P : M} {g : HpM} {p : Nat} {c : Int} {R : M → HpM → Prop} (hh : In g p c) (hc : c < 900000000) (hw : ∀ q ∈ ms, q.1.length ≤ 100) (hm1 : 1 ≤ ms.length) (hm10 : ms.length ≤ 10)
    (k : ∀ (d : M) (g' : HpM), Qd d → In g' p (c + 10) → g'.length = g.length → R d g') : Ens (m__law_bent [.ref p, P, .lst (ms.map mv)] g) R := by
  refine e_shut ?_
  have hpl : (ms.map mv).length = ms.length := List.length_map ..
  have hpu : ∀ y ∈ ms.map mv, Pu 3 y := fun y hy => (mvs_pu hw y hy).mono (by decide)
  have hat0 : ∀ j < ms.length, ∃ w i, (ms.map mv)[j]? = some (.tup [.str w, .int i]) ∧ w.length ≤ 100 := by
    intro j hj
    refine ⟨ms[j].1, ms[j].2, ?_, hw _ (List.getElem_mem hj)⟩
    rw [List.getElem?_map, List.getElem?_eq_getElem hj]; rfl
  generalize ms.map mv = pl at hpl hpu hat0 ⊢
  refine e_fun rfl ?_
  unfold b__law_bent
  walk_at "h"
  refine take_at (List.append_nil g).symm hh (by omega) (by omega) (by omega) fun r1 g1 h10 h11 hh1 hl1 => ?_
  obtain ⟨j, rfl⟩ := Int.eq_ofNat_of_zero_le h10
  obtain ⟨w, i, hat, hwl⟩ := hat0 j (by omega)
  clear hat0
  walk_at "h"
  refine take_at rfl hh1 (by decide) (by decide) (by omega) fun r2 g2 h20 h21 hh2 hl2 => ?_
  walk_at "h"
  refine p_any h20 h21 fun x hx => ?_
  obtain ⟨w2, rfl, hw2⟩ := inS_str (mem_all (P := inS) (by decide +kernel) hx)
  clear hx
  walk_at "h"
  refine take_at rfl hh2 (by decide) (by decide) (by omega) fun r3 g3 h30 h31 hh3 hl3 => ?_
  have hA : (cutM pl none (some (j : Int))).length ≤ 10 := Nat.le_trans cut_len (by omega)
  have hB : (cutM pl (some ((j : Int) + 1)) none).length ≤ 10 := Nat.le_trans cut_len (by omega)
  have hA' : ∀ y ∈ cutM pl none (some (j : Int)), Pu 3 y := fun y hy => hpu y (cut_mem hy)
  have hB' : ∀ y ∈ cutM pl (some ((j : Int) + 1)) none, Pu 3 y := fun y hy => hpu y (cut_mem hy)
  have hm2 : Pu 2 (.tup [.str w, .int i]) := pu2 (Pu.str hwl) Pu.int
  have hm3 : Pu 3 (.tup [.str w, .int i]) := pu2 (Pu.str hwl) Pu.int
  walk_at "h"
  refine e_lstHQ ?_
  walk_at "h"
  refine ⟨by walk_at "q", fun xs hxl hxq => ?_⟩
  replace hxl : xs.length = 5 := hxl
  rw [List.append_nil]
  walk_at "h"
  refine e_mt ?_
  walk_at "h"
  refine ⟨isL_last, ?_⟩
  walk_at "h"
  refine p_rev ?_
  walk_at "h"
  refine e_append (at1 rfl) (by omega) ?_
  rw [set1 rfl]
  have hrv : ∀ y ∈ pl.reverse, Pu 3 y := fun y hy => hpu y (List.mem_reverse.mp hy)
  have hx6 : ∀ y ∈ xs ++ [M.lst pl.reverse], Qd y := by walk_at "q"
  have hl6 : (xs ++ [M.lst pl.reverse]).length = 6 := by simp [hxl]
  generalize xs ++ [M.lst pl.reverse] = xs6 at hx6 hl6 ⊢
  clear hxq hxl xs hrv
  walk_at "h"
  refine e_addH ?_
  walk_at "h"
  refine ⟨_, _, seqL_at (at1 rfl), rfl, by simp [hl6], ?_⟩
  walk_at "h"
  refine e_addH ?_
  walk_at "h"
  refine ⟨_, _, seqL_at (at1 rfl), rfl, by simp [hl6], ?_⟩
  walk_at "h"
  refine e_addH ?_
  walk_at "h"
  refine take_at (t := [_, _, _]) (by rw [List.append_assoc, List.append_assoc]; rfl) hh3 (by decide) (by decide) (by omega) fun r4 g4 h40 h41 hh4 hl4 => ?_
  walk_at "h"
  refine p_any h40 h41 fun o ho => ?_
  have ho3 : Pu 3 o := by
    revert o
    walk_at "q"
    all_goals first | exact Pu.tup (by simp) al_nil | exact Pu.lst (by simp) (by walk_at "q")
  clear ho
  walk_at "h"
  refine ⟨_, _, seqL_at (at3 (by simp [hl4])), rfl, by simp [hl6], ?_⟩
  walk_at "h"
  refine e_addH ?_
  walk_at "h"
  refine take_at (t := [_, _, _, _]) (by rw [List.append_assoc]; rfl) hh4 (by decide) (by decide) (by omega) fun r5 g5 h50 h51 hh5 hl5 => ?_
  walk_at "h"
  refine p_any h50 h51 fun s hs => ?_
  have hsq : Qd s := by
    simp only [List.mem_cons, List.not_mem_nil, or_false] at hs
    rcases hs with rfl | rfl | rfl | rfl | rfl | rfl | rfl | rfl | rfl
    · exact qd_flat Pu.non rfl
    · exact qd_tup (by simp) al_nil
    · exact qd_lst (by simp) al_nil
    · exact qd_flat Pu.int rfl
    · exact qd_flat (Pu.str (by decide +kernel)) rfl
    · exact qd_flat Pu.bl rfl
    · exact qd_tup (by simp) (by walk_at "q")
    · exact qd_lst (by simp) (by walk_at "q")
    · exact qd_flat (Pu.str (by decide +kernel)) rfl
  clear hs
  walk_at "h"
  refine ⟨_, _, seqL_at (at4 (by simp [hl5])), rfl, by simp [hl6], ?_⟩
  walk_at "h"
  refine take_at (t := [_, _, _, _, _]) (by rw [List.append_assoc]; rfl) hh5 (by decide) (by decide) (by omega) fun r6 g6 h60 h61 hh6 hl6' => ?_
  walk_at "h"
  refine p_anyR (at5 (by simp [hl6'])) h60 (by simp [hl6]; omega) fun d hd => ?_
  have hdq : Qd d := by
    revert d
    walk_at "q"
  walk_at "h"
  exact ⟨g6, _, 4, rfl, by omega, hh6.2, hdq.1, k d g6 hdq (hh6.mono (by omega)) (by omega)⟩
theorem law_true (ns : List Int) (hl : ns.length ≤ 63) : ∃ h', m_law [.scr ns] [] = some (.bl true, h') := by
  suffices z : Ens (m_law [.scr ns] []) fun d _ => d = .bl true by
    obtain ⟨d, h', e, rfl⟩ := z
    exact ⟨h', e⟩
  refine e_fun rfl ?_
  unfold b_law
  walk_at "kf"
  refine box_in (i := 1) (by intro o ho; cases ho) (by decide) fun g hh => ?_
  walk_at "kf"
  refine pattern_in hh (by decide) fun sp bs g1 hn0 hn hB hb h31 => ?_
  walk_at "kf"
  refine e_iR1 ?_
  walk_at "kf"
  refine ⟨⟨by split <;> omega, by split <;> omega⟩, ?_⟩
  refine e_over (fun i ρ h' => ∃ v2 v3 v4 v5 v6 v7, ρ = [some (.scr ns), some (PM sp bs), v2, v3, v4, v5, v6, v7] ∧ Hp3 h') ⟨_, _, _, _, _, _, rfl, h31⟩ ?_ ?_
  · rintro i x ρ h hx ⟨v2, v3, v4, v5, v6, v7, rfl, h3⟩
    have hi : i ≤ 20 := by
      have := (List.getElem?_eq_some_iff.mp hx).1
      simp at this
      split at this <;> omega
    obtain ⟨j, hj, rfl⟩ : ∃ j : Nat, j = i ∧ x = .int (j : Int) := by
      rw [List.getElem?_map] at hx
      obtain ⟨j, hj, rfl⟩ := Option.map_eq_some_iff.mp hx
      obtain ⟨h1, h2⟩ := List.getElem?_eq_some_iff.mp hj
      rw [List.getElem_range] at h2
      exact ⟨j, h2.symm, rfl⟩
    subst hj
    walk_at "kf"
    refine box_in h3 hi fun g hh => ?_
    walk_at "kf"
    refine plan_in hh (by decide) hn0 hn hB hb fun ms g2 hw m1 m10 er hh2 hl2 => ?_
    have hq : Qd (.lst (ms.map mv)) := qd_lst (by rw [List.length_map]; omega) fun y hy => (mvs_pu hw y hy).mono (by decide)
    have hqt : Qd (.tup (ms.map mv)) := qd_tup (by rw [List.length_map]; omega) fun y hy => (mvs_pu hw y hy).mono (by decide)
    walk_at "kf"
    refine ens_eq (plan_run hq.1 (by decide) hq.2) ?_
    rw [show planB sp.length bs (.lst (ms.map mv)) = true from er]
    walk_at "kf"
    refine p_tupL ?_
    walk_at "kf"
    refine ens_eq (plan_run hqt.1 (by decide) hqt.2) ?_
    rw [show planB sp.length bs (.tup (ms.map mv)) = true from er]
    walk_at "kf"
    refine e_iR1 ?_
    walk_at "kf"
    refine ⟨⟨by decide, by decide⟩, ?_⟩
    refine e_over (fun i ρ h' => ∃ v5 v6 v7, ρ = [some (.scr ns), some (PM sp bs), some (.int (j : Int)), some (.ref h.length), some (.lst (ms.map mv)), v5, v6, v7] ∧ In h' h.length (160 + 10 * i)) ⟨_, _, _, rfl, hh2.mono (by omega)⟩ ?_ ?_
    · rintro t x ρ h' hx ⟨v5, v6, v7, rfl, hh3⟩
      have ht : t < 4 := by
        have := (List.getElem?_eq_some_iff.mp hx).1
        simpa using this
      walk_at "kf"
      refine bent_in hh3 (by omega) hw m1 m10 fun d g4 hd hh4 hl4 => ?_
      walk_at "kf"
      refine ens_eq (plan_run hd.1 (by decide) hd.2) ?_
      walk_at "kf"
      refine ens_eq (lplan_run hh4.2.p hn hB hd.1 hd.2) ?_
      walk_at "kf"
      refine ite_F (by simp) ?_
      walk_at "kf"
      exact ⟨_, _, _, rfl, hh4.mono (by omega)⟩
    · rintro ρ h' ⟨v5, v6, v7, rfl, hh3⟩
      walk_at "kf"
      exact ⟨_, _, _, _, _, _, rfl, hh3.2⟩
  · rintro ρ h ⟨v2, v3, v4, v5, v6, v7, rfl, h3⟩
    walk_at "kf"
    rfl
end K57
set_option Elab.async false
set_option linter.all false
set_option maxRecDepth 100000
set_option maxHeartbeats 8000000
namespace K57
open PySem L2
section
variable {P : Program} {w : World} {K : PySem.W.Frag} {mg : Str → Option Value} {base : Heap} {t : Adr}
theorem ok_law0 (T : Txt K mg t) : FnOk P w K mg base CX0 5 t.f_law t.d_law ["_law_script"] (spLaw K) := (ok_law T).imp fun vs H Q E q => spLaw_spM law_true q
end
theorem txt_mk {K : PySem.W.Frag} {h : Heap} {mg : Str → Option Value} {f0 f1 f2 f3 f4 f5 f6 f7 f8 f9 f10 f11 f12 f13 f14 f15 f16 : Addr} (X : K.In h) (G : h.Ns mainGlobals mg)
   {od0 an0 od1 an1 od2 an2 od3 an3 od4 an4 od5 an5 od6 an6 od7 an7 od8 an8 od9 an9 od10 an10 od11 an11 od12 an12 od13 an13 od14 an14 od15 an15 od16 an16 : Option Addr} {sl0 sl1 sl2 sl3 sl4 sl5 sl6 sl7 sl8 sl9 sl10 sl11 sl12 sl13 sl14 sl15 sl16 : Array (Option Value)} {oc0 kV0 dc0 pm0 cd0 ct0 oc1 kV1 dc1 pm1 cd1 ct1 oc2 kV2 dc2 pm2 cd2 ct2 oc3 kV3 dc3 pm3 cd3 ct3 oc4 kV4 dc4 pm4 cd4 ct4 oc5 kV5 dc5 pm5 cd5 ct5 oc6 kV6 dc6 pm6 cd6 ct6 oc7 kV7 dc7 pm7 cd7 ct7 oc8 kV8 dc8 pm8 cd8 ct8 oc9 kV9 dc9 pm9 cd9 ct9 oc10 kV10 dc10 pm10 cd10 ct10 oc11 kV11 dc11 pm11 cd11 ct11 oc12 kV12 dc12 pm12 cd12 ct12 oc13 kV13 dc13 pm13 cd13 ct13 oc14 kV14 dc14 pm14 cd14 ct14 oc15 kV15 dc15 pm15 cd15 ct15 oc16 kV16 dc16 pm16 cd16 ct16 : Value}
   (a0 : PySem.W.nsIn K mainGlobals "is_number" = some (some (.ref f0))) (l0 : K.lookup f0 = some ⟨oc0, od0, .func (PySem.W.fnOf "is_number" "is_number" (defArgs s_is_number) (defBody s_is_number) (defScope s_is_number) .none kV0 dc0 pm0 an0 cd0 ct0), sl0⟩) (c0 : PySem.W.codeIn K cd0 "is_number" = true) (k0 : PySem.W.keepIn K (.ref f0) = true)
   (a1 : PySem.W.nsIn K mainGlobals "is_spot_number" = some (some (.ref f1))) (l1 : K.lookup f1 = some ⟨oc1, od1, .func (PySem.W.fnOf "is_spot_number" "is_spot_number" (defArgs s_is_spot_number) (defBody s_is_spot_number) (defScope s_is_spot_number) .none kV1 dc1 pm1 an1 cd1 ct1), sl1⟩) (c1 : PySem.W.codeIn K cd1 "is_spot_number" = true) (k1 : PySem.W.keepIn K (.ref f1) = true)
   (a2 : PySem.W.nsIn K mainGlobals "is_plan" = some (some (.ref f2))) (l2 : K.lookup f2 = some ⟨oc2, od2, .func (PySem.W.fnOf "is_plan" "is_plan" (defArgs s_is_plan) (defBody s_is_plan) (defScope s_is_plan) .none kV2 dc2 pm2 an2 cd2 ct2), sl2⟩) (c2 : PySem.W.codeIn K cd2 "is_plan" = true) (k2 : PySem.W.keepIn K (.ref f2) = true)
   (a3 : PySem.W.nsIn K mainGlobals "is_move" = some (some (.ref f3))) (l3 : K.lookup f3 = some ⟨oc3, od3, .func (PySem.W.fnOf "is_move" "is_move" (defArgs s_is_move) (defBody s_is_move) (defScope s_is_move) .none kV3 dc3 pm3 an3 cd3 ct3), sl3⟩) (c3 : PySem.W.codeIn K cd3 "is_move" = true) (k3 : PySem.W.keepIn K (.ref f3) = true)
   (a4 : PySem.W.nsIn K mainGlobals "many_for" = some (some (.ref f4))) (l4 : K.lookup f4 = some ⟨oc4, od4, .func (PySem.W.fnOf "many_for" "many_for" (defArgs s_many_for) (defBody s_many_for) (defScope s_many_for) .none kV4 dc4 pm4 an4 cd4 ct4), sl4⟩) (c4 : PySem.W.codeIn K cd4 "many_for" = true) (k4 : PySem.W.keepIn K (.ref f4) = true)
   (a5 : PySem.W.nsIn K mainGlobals "behind_move" = some (some (.ref f5))) (l5 : K.lookup f5 = some ⟨oc5, od5, .func (PySem.W.fnOf "behind_move" "behind_move" (defArgs s_behind_move) (defBody s_behind_move) (defScope s_behind_move) .none kV5 dc5 pm5 an5 cd5 ct5), sl5⟩) (c5 : PySem.W.codeIn K cd5 "behind_move" = true) (k5 : PySem.W.keepIn K (.ref f5) = true)
   (a6 : PySem.W.nsIn K mainGlobals "with_one" = some (some (.ref f6))) (l6 : K.lookup f6 = some ⟨oc6, od6, .func (PySem.W.fnOf "with_one" "with_one" (defArgs s_with_one) (defBody s_with_one) (defScope s_with_one) .none kV6 dc6 pm6 an6 cd6 ct6), sl6⟩) (c6 : PySem.W.codeIn K cd6 "with_one" = true) (k6 : PySem.W.keepIn K (.ref f6) = true)
   (a7 : PySem.W.nsIn K mainGlobals "is_whole" = some (some (.ref f7))) (l7 : K.lookup f7 = some ⟨oc7, od7, .func (PySem.W.fnOf "is_whole" "is_whole" (defArgs s_is_whole) (defBody s_is_whole) (defScope s_is_whole) .none kV7 dc7 pm7 an7 cd7 ct7), sl7⟩) (c7 : PySem.W.codeIn K cd7 "is_whole" = true) (k7 : PySem.W.keepIn K (.ref f7) = true)
   (a8 : PySem.W.nsIn K mainGlobals "_law_box" = some (some (.ref f8))) (l8 : K.lookup f8 = some ⟨oc8, od8, .func (PySem.W.fnOf "_law_box" "_law_box" (defArgs s__law_box) (defBody s__law_box) (defScope s__law_box) .none kV8 dc8 pm8 an8 cd8 ct8), sl8⟩) (c8 : PySem.W.codeIn K cd8 "_law_box" = true) (k8 : PySem.W.keepIn K (.ref f8) = true)
   (a9 : PySem.W.nsIn K mainGlobals "_law_take" = some (some (.ref f9))) (l9 : K.lookup f9 = some ⟨oc9, od9, .func (PySem.W.fnOf "_law_take" "_law_take" (defArgs s__law_take) (defBody s__law_take) (defScope s__law_take) .none kV9 dc9 pm9 an9 cd9 ct9), sl9⟩) (c9 : PySem.W.codeIn K cd9 "_law_take" = true) (k9 : PySem.W.keepIn K (.ref f9) = true)
   (a10 : PySem.W.nsIn K mainGlobals "_law_pattern" = some (some (.ref f10))) (l10 : K.lookup f10 = some ⟨oc10, od10, .func (PySem.W.fnOf "_law_pattern" "_law_pattern" (defArgs s__law_pattern) (defBody s__law_pattern) (defScope s__law_pattern) .none kV10 dc10 pm10 an10 cd10 ct10), sl10⟩) (c10 : PySem.W.codeIn K cd10 "_law_pattern" = true) (k10 : PySem.W.keepIn K (.ref f10) = true)
   (a11 : PySem.W.nsIn K mainGlobals "_law_moves" = some (some (.ref f11))) (l11 : K.lookup f11 = some ⟨oc11, od11, .func (PySem.W.fnOf "_law_moves" "_law_moves" (defArgs s__law_moves) (defBody s__law_moves) (defScope s__law_moves) .none kV11 dc11 pm11 an11 cd11 ct11), sl11⟩) (c11 : PySem.W.codeIn K cd11 "_law_moves" = true) (k11 : PySem.W.keepIn K (.ref f11) = true)
   (a12 : PySem.W.nsIn K mainGlobals "_law_behind" = some (some (.ref f12))) (l12 : K.lookup f12 = some ⟨oc12, od12, .func (PySem.W.fnOf "_law_behind" "_law_behind" (defArgs s__law_behind) (defBody s__law_behind) (defScope s__law_behind) .none kV12 dc12 pm12 an12 cd12 ct12), sl12⟩) (c12 : PySem.W.codeIn K cd12 "_law_behind" = true) (k12 : PySem.W.keepIn K (.ref f12) = true)
   (a13 : PySem.W.nsIn K mainGlobals "_law_plan" = some (some (.ref f13))) (l13 : K.lookup f13 = some ⟨oc13, od13, .func (PySem.W.fnOf "_law_plan" "_law_plan" (defArgs s__law_plan) (defBody s__law_plan) (defScope s__law_plan) .none kV13 dc13 pm13 an13 cd13 ct13), sl13⟩) (c13 : PySem.W.codeIn K cd13 "_law_plan" = true) (k13 : PySem.W.keepIn K (.ref f13) = true)
   (a14 : PySem.W.nsIn K mainGlobals "_law_is_plan" = some (some (.ref f14))) (l14 : K.lookup f14 = some ⟨oc14, od14, .func (PySem.W.fnOf "_law_is_plan" "_law_is_plan" (defArgs s__law_is_plan) (defBody s__law_is_plan) (defScope s__law_is_plan) .none kV14 dc14 pm14 an14 cd14 ct14), sl14⟩) (c14 : PySem.W.codeIn K cd14 "_law_is_plan" = true) (k14 : PySem.W.keepIn K (.ref f14) = true)
   (a15 : PySem.W.nsIn K mainGlobals "_law_bent" = some (some (.ref f15))) (l15 : K.lookup f15 = some ⟨oc15, od15, .func (PySem.W.fnOf "_law_bent" "_law_bent" (defArgs s__law_bent) (defBody s__law_bent) (defScope s__law_bent) .none kV15 dc15 pm15 an15 cd15 ct15), sl15⟩) (c15 : PySem.W.codeIn K cd15 "_law_bent" = true) (k15 : PySem.W.keepIn K (.ref f15) = true)
   (a16 : PySem.W.nsIn K mainGlobals "law" = some (some (.ref f16))) (l16 : K.lookup f16 = some ⟨oc16, od16, .func (PySem.W.fnOf "law" "law" (defArgs s_law) (defBody s_law) (defScope s_law) .none kV16 dc16 pm16 an16 cd16 ct16), sl16⟩) (c16 : PySem.W.codeIn K cd16 "law" = true) (k16 : PySem.W.keepIn K (.ref f16) = true)
   (z_abs : PySem.W.nsIn K mainGlobals "abs" = some none)
   (z_bool : PySem.W.nsIn K mainGlobals "bool" = some none)
   (z_enumerate : PySem.W.nsIn K mainGlobals "enumerate" = some none)
   (z_int : PySem.W.nsIn K mainGlobals "int" = some none)
   (z_isinstance : PySem.W.nsIn K mainGlobals "isinstance" = some none)
   (z_len : PySem.W.nsIn K mainGlobals "len" = some none)
   (z_list : PySem.W.nsIn K mainGlobals "list" = some none)
   (z_min : PySem.W.nsIn K mainGlobals "min" = some none)
   (z_range : PySem.W.nsIn K mainGlobals "range" = some none)
   (z_reversed : PySem.W.nsIn K mainGlobals "reversed" = some none)
   (z_sorted : PySem.W.nsIn K mainGlobals "sorted" = some none)
   (z_tuple : PySem.W.nsIn K mainGlobals "tuple" = some none)
   {tk_MOVES_2 tk_MOVES_3 tk_MOVES_4 tk_MOVES_5 : Tok} {ad_MOVES_1 : Addr} {dd_MOVES_1 : Option Addr} {nn_MOVES_1 : Nat} {sl_MOVES_1 : Array (Option Value)} (c_MOVES : PySem.W.nsIn K mainGlobals "MOVES" = some (some (.ref ad_MOVES_1)))
   (l_MOVES_1 : K.lookup ad_MOVES_1 = some { cls := .type "tuple", dict := dd_MOVES_1, data := .seq [(.str "back" tk_MOVES_2), (.str "forth" tk_MOVES_3), (.str "lay" tk_MOVES_4), (.str "meet" tk_MOVES_5)].toArray nn_MOVES_1, slots := sl_MOVES_1 })
   {ad_START_2 : Addr} {dd_START_2 : Option Addr} {nn_START_2 : Nat} {sl_START_2 : Array (Option Value)} {ad_START_3 : Addr} {dd_START_3 : Option Addr} {nn_START_3 : Nat} {sl_START_3 : Array (Option Value)} {ad_START_1 : Addr} {dd_START_1 : Option Addr} {nn_START_1 : Nat} {sl_START_1 : Array (Option Value)} (c_START : PySem.W.nsIn K mainGlobals "START" = some (some (.ref ad_START_1)))
   (l_START_1 : K.lookup ad_START_1 = some { cls := .type "tuple", dict := dd_START_1, data := .seq [(.ref ad_START_2), (.ref ad_START_3)].toArray nn_START_1, slots := sl_START_1 })
   (l_START_3 : K.lookup ad_START_3 = some { cls := .type "tuple", dict := dd_START_3, data := .seq [].toArray nn_START_3, slots := sl_START_3 })
   (l_START_2 : K.lookup ad_START_2 = some { cls := .type "tuple", dict := dd_START_2, data := .seq [].toArray nn_START_2, slots := sl_START_2 })
   : ∃ t, Txt K mg t ∧ t.f_law = f16 ∧ t.d_law = PySem.W.fnOf "law" "law" (defArgs s_law) (defBody s_law) (defScope s_law) .none kV16 dc16 pm16 an16 cd16 ct16 := by
 have F0 := fun_mk (st := s_is_number) l0 c0 k0
 have b0 := F0.binds (ps := ["thing"]) fun _ _ _ _ _ _ us hl => match us, hl with | [_], _ => rfl
 have F1 := fun_mk (st := s_is_spot_number) l1 c1 k1
 have b1 := F1.binds (ps := ["thing", "many"]) fun _ _ _ _ _ _ us hl => match us, hl with | [_, _], _ => rfl
 have F2 := fun_mk (st := s_is_plan) l2 c2 k2
 have b2 := F2.binds (ps := ["pattern", "thing"]) fun _ _ _ _ _ _ us hl => match us, hl with | [_, _], _ => rfl
 have F3 := fun_mk (st := s_is_move) l3 c3 k3
 have b3 := F3.binds (ps := ["pattern", "thing"]) fun _ _ _ _ _ _ us hl => match us, hl with | [_, _], _ => rfl
 have F4 := fun_mk (st := s_many_for) l4 c4 k4
 have b4 := F4.binds (ps := ["pattern", "word"]) fun _ _ _ _ _ _ us hl => match us, hl with | [_, _], _ => rfl
 have F5 := fun_mk (st := s_behind_move) l5 c5 k5
 have b5 := F5.binds (ps := ["pattern", "state", "move"]) fun _ _ _ _ _ _ us hl => match us, hl with | [_, _, _], _ => rfl
 have F6 := fun_mk (st := s_with_one) l6 c6 k6
 have b6 := F6.binds (ps := ["numbers", "number"]) fun _ _ _ _ _ _ us hl => match us, hl with | [_, _], _ => rfl
 have F7 := fun_mk (st := s_is_whole) l7 c7 k7
 have b7 := F7.binds (ps := ["pattern", "state"]) fun _ _ _ _ _ _ us hl => match us, hl with | [_, _], _ => rfl
 have F8 := fun_mk (st := s__law_box) l8 c8 k8
 have b8 := F8.binds (ps := ["_law_script", "_law_k"]) fun _ _ _ _ _ _ us hl => match us, hl with | [_, _], _ => rfl
 have F9 := fun_mk (st := s__law_take) l9 c9 k9
 have b9 := F9.binds (ps := ["_law_box_here", "_law_many"]) fun _ _ _ _ _ _ us hl => match us, hl with | [_, _], _ => rfl
 have F10 := fun_mk (st := s__law_pattern) l10 c10 k10
 have b10 := F10.binds (ps := ["_law_box_here"]) fun _ _ _ _ _ _ us hl => match us, hl with | [_], _ => rfl
 have F11 := fun_mk (st := s__law_moves) l11 c11 k11
 have b11 := F11.binds (ps := ["_law_pattern_here", "_law_spots", "_law_bows"]) fun _ _ _ _ _ _ us hl => match us, hl with | [_, _, _], _ => rfl
 have F12 := fun_mk (st := s__law_behind) l12 c12 k12
 have b12 := F12.binds (ps := ["_law_pattern_here", "_law_spots", "_law_bows", "_law_move"]) fun _ _ _ _ _ _ us hl => match us, hl with | [_, _, _, _], _ => rfl
 have F13 := fun_mk (st := s__law_plan) l13 c13 k13
 have b13 := F13.binds (ps := ["_law_box_here", "_law_pattern_here"]) fun _ _ _ _ _ _ us hl => match us, hl with | [_, _], _ => rfl
 have F14 := fun_mk (st := s__law_is_plan) l14 c14 k14
 have b14 := F14.binds (ps := ["_law_pattern_here", "_law_thing"]) fun _ _ _ _ _ _ us hl => match us, hl with | [_, _], _ => rfl
 have F15 := fun_mk (st := s__law_bent) l15 c15 k15
 have b15 := F15.binds (ps := ["_law_box_here", "_law_pattern_here", "_law_plan_here"]) fun _ _ _ _ _ _ us hl => match us, hl with | [_, _, _], _ => rfl
 have F16 := fun_mk (st := s_law) l16 c16 k16
 have b16 := F16.binds (ps := ["_law_script"]) fun _ _ _ _ _ _ us hl => match us, hl with | [_], _ => rfl
 exact ⟨⟨f0, _, f1, _, f2, _, f3, _, f4, _, f5, _, f6, _, f7, _, f8, _, f9, _, f10, _, f11, _, f12, _, f13, _, f14, _, f15, _, f16, _, _, _⟩, ⟨F0, b0, PySem.W.mg_of X G a0, F1, b1, PySem.W.mg_of X G a1, F2, b2, PySem.W.mg_of X G a2, F3, b3, PySem.W.mg_of X G a3, F4, b4, PySem.W.mg_of X G a4, F5, b5, PySem.W.mg_of X G a5, F6, b6, PySem.W.mg_of X G a6, F7, b7, PySem.W.mg_of X G a7, F8, b8, PySem.W.mg_of X G a8, F9, b9, PySem.W.mg_of X G a9, F10, b10, PySem.W.mg_of X G a10, F11, b11, PySem.W.mg_of X G a11, F12, b12, PySem.W.mg_of X G a12, F13, b13, PySem.W.mg_of X G a13, F14, b14, PySem.W.mg_of X G a14, F15, b15, PySem.W.mg_of X G a15, F16, b16, PySem.W.mg_of X G a16, PySem.W.mg_none_of X G z_abs, PySem.W.mg_none_of X G z_bool, PySem.W.mg_none_of X G z_enumerate, PySem.W.mg_none_of X G z_int, PySem.W.mg_none_of X G z_isinstance, PySem.W.mg_none_of X G z_len, PySem.W.mg_none_of X G z_list, PySem.W.mg_none_of X G z_min, PySem.W.mg_none_of X G z_range, PySem.W.mg_none_of X G z_reversed, PySem.W.mg_none_of X G z_sorted, PySem.W.mg_none_of X G z_tuple, PySem.W.mg_of X G c_MOVES, (const_of l_MOVES_1 (by simp) (const_cons const_str (const_cons const_str (const_cons const_str (const_cons const_str const_nil))))), PySem.W.mg_of X G c_START, (const_of l_START_1 (by simp) (const_cons (const_of l_START_2 (by simp) const_nil) (const_cons (const_of l_START_3 (by simp) const_nil) const_nil)))⟩, rfl, rfl⟩
end K57
open PySem PySem.W PyProof.Rows
set_option maxRecDepth 100000 in
set_option maxHeartbeats 0 in
theorem PySem.Challenge.cw_webstore_k57_plans_or_not_holds : PySem.Challenge.rw_webstore_k57_plans_or_not.Holds := by
 w_on; o_law; k_head; (case hw => w_witness2)
 k_fill
 refine L2.walk_ofK (l := PySem.Challenge.rw_webstore_k57_plans_or_not) (n := 63) (k := 5) (x := "_law_script") (CX := L2.CX0) (sp := L2.spLaw) rfl (by decide) rfl ⟨rfl, by decide, by decide⟩ (fun w h Y => PySem.W.kIn_of Y) ?F ?S ?C
 case F =>
   intro w mg fa h KX G hmg
   have Z : ∃ f kV dc pm an cd ct t, K57.Txt (L2.KOf KX) mg t ∧ t.f_law = f ∧ t.d_law = PySem.W.fnOf "law" "law" (L2.defArgs K57.s_law) (L2.defBody K57.s_law) (L2.defScope K57.s_law) .none kV dc pm an cd ct := by
     dsimp only [L2.KOf]
     refine' ⟨_, _, _, _, _, _, _, K57.txt_mk KX G ?a0 ?l0 ?c0 ?k0 ?a1 ?l1 ?c1 ?k1 ?a2 ?l2 ?c2 ?k2 ?a3 ?l3 ?c3 ?k3 ?a4 ?l4 ?c4 ?k4 ?a5 ?l5 ?c5 ?k5 ?a6 ?l6 ?c6 ?k6 ?a7 ?l7 ?c7 ?k7 ?a8 ?l8 ?c8 ?k8 ?a9 ?l9 ?c9 ?k9 ?a10 ?l10 ?c10 ?k10 ?a11 ?l11 ?c11 ?k11 ?a12 ?l12 ?c12 ?k12 ?a13 ?l13 ?c13 ?k13 ?a14 ?l14 ?c14 ?k14 ?a15 ?l15 ?c15 ?k15 ?a16 ?l16 ?c16 ?k16 ?z_abs ?z_bool ?z_enumerate ?z_int ?z_isinstance ?z_len ?z_list ?z_min ?z_range ?z_reversed ?z_sorted ?z_tuple ?c_MOVES ?l_MOVES_1 ?c_START ?l_START_1 ?l_START_3 ?l_START_2⟩
     (case a0 => k_is)
     (case l0 => k_is)
     (case c0 => k_is)
     (case k0 => k_is)
     (case a1 => k_is)
     (case l1 => k_is)
     (case c1 => k_is)
     (case k1 => k_is)
     (case a2 => k_is)
     (case l2 => k_is)
     (case c2 => k_is)
     (case k2 => k_is)
     (case a3 => k_is)
     (case l3 => k_is)
     (case c3 => k_is)
     (case k3 => k_is)
     (case a4 => k_is)
     (case l4 => k_is)
     (case c4 => k_is)
     (case k4 => k_is)
     (case a5 => k_is)
     (case l5 => k_is)
     (case c5 => k_is)
     (case k5 => k_is)
     (case a6 => k_is)
     (case l6 => k_is)
     (case c6 => k_is)
     (case k6 => k_is)
     (case a7 => k_is)
     (case l7 => k_is)
     (case c7 => k_is)
     (case k7 => k_is)
     (case a8 => k_is)
     (case l8 => k_is)
     (case c8 => k_is)
     (case k8 => k_is)
     (case a9 => k_is)
     (case l9 => k_is)
     (case c9 => k_is)
     (case k9 => k_is)
     (case a10 => k_is)
     (case l10 => k_is)
     (case c10 => k_is)
     (case k10 => k_is)
     (case a11 => k_is)
     (case l11 => k_is)
     (case c11 => k_is)
     (case k11 => k_is)
     (case a12 => k_is)
     (case l12 => k_is)
     (case c12 => k_is)
     (case k12 => k_is)
     (case a13 => k_is)
     (case l13 => k_is)
     (case c13 => k_is)
     (case k13 => k_is)
     (case a14 => k_is)
     (case l14 => k_is)
     (case c14 => k_is)
     (case k14 => k_is)
     (case a15 => k_is)
     (case l15 => k_is)
     (case c15 => k_is)
     (case k15 => k_is)
     (case a16 => k_is)
     (case l16 => k_is)
     (case c16 => k_is)
     (case k16 => k_is)
     (case z_abs => k_is)
     (case z_bool => k_is)
     (case z_enumerate => k_is)
     (case z_int => k_is)
     (case z_isinstance => k_is)
     (case z_len => k_is)
     (case z_list => k_is)
     (case z_min => k_is)
     (case z_range => k_is)
     (case z_reversed => k_is)
     (case z_sorted => k_is)
     (case z_tuple => k_is)
     (case c_MOVES => k_is)
     (case l_MOVES_1 => k_is)
     (case c_START => k_is)
     (case l_START_1 => k_is)
     (case l_START_3 => k_is)
     (case l_START_2 => k_is)
   obtain ⟨f, kV, dc, pm, an, cd, ct, t, hT, hf, hd⟩ := Z
   have e := hmg.symm.trans hT.m_law
   rw [hf] at e
   cases e
   subst hf
   refine ⟨t.d_law, fun s u => by rw [hd]; exact .of_eq rfl, fun base kb nb => (K57.ok_law0 hT).mono (by decide)⟩
 case S => exact fun K H a ns hl hO hS => L2.spLaw_of hl hS
 case C => exact fun _ _ _ _ z => z
