import PyProof.Rows.All
import Wide.All
import OpenK.AllK
import Wide.FinOn
import Lean
import PyProof.EqAt
import PyProof.EqKinds
import PyProof.TupleCall
import PyProof.NeKinds
import PyProof.StrLawsIn
import PyProof.Draws
import PyProof.ZipIter
import PySem.Challenge.RW_webstore_k02_values_in_order
-- CHANGE: your row's module here, as the last of these rows
set_option Elab.async false
set_option linter.all false
set_option maxRecDepth 100000
namespace L2
open PySem PySem.Spec PyProof.Rows
abbrev Key := Sum Int Str
def keyIs : Key → Value → Bool
  | .inl k, v => Value.isInt k v
  | .inr x, v => Value.isStrOf x v
def keyH (w : World) : Key → Int
  | .inl k => hashInt k
  | .inr x => hashStr w x
theorem keyIs_shape : ∀ {k : Key} {v : Value}, keyIs k v = true → (∃ i t, k = Sum.inl i ∧ v = Value.int i t) ∨ (∃ x t, k = Sum.inr x ∧ v = Value.str x t)
  | .inl i, v, h => by
    obtain ⟨t, e⟩ := Value.isInt_shape (k := i) (v := v) h
    exact .inl ⟨i, t, rfl, e⟩
  | .inr x, v, h => by
    obtain ⟨t, e⟩ := Value.isStrOf_shape (x := x) (v := v) h
    exact .inr ⟨x, t, rfl, e⟩
theorem key_ll (a b : Int) : decide ((Sum.inl a : Key) = Sum.inl b) = (a == b) := by
  by_cases e : a = b
  · subst e; simp
  · have h : ¬ (Sum.inl a : Key) = Sum.inl b := fun q => e (Sum.inl.inj q)
    rw [decide_eq_false h]
    exact (beq_eq_false_iff_ne.mpr e).symm
theorem key_rr (a b : Str) : decide ((Sum.inr a : Key) = Sum.inr b) = decide (a = b) := by
  by_cases e : a = b
  · subst e; simp
  · have h : ¬ (Sum.inr a : Key) = Sum.inr b := fun q => e (Sum.inr.inj q)
    rw [decide_eq_false h, decide_eq_false e]
theorem key_lr (a : Int) (b : Str) : decide ((Sum.inl a : Key) = Sum.inr b) = false := decide_eq_false (fun q => nomatch q)
theorem key_rl (a : Str) (b : Int) : decide ((Sum.inr a : Key) = Sum.inl b) = false := decide_eq_false (fun q => nomatch q)

def mixKind (prog : Program) (w : World) : PySem.KeyKind prog w Key where
  is := keyIs
  hash := keyH w
  inj := fun v a b ha hb => by
    rcases keyIs_shape ha with ⟨i, t, rfl, rfl⟩ | ⟨x, t, rfl, rfl⟩
    · rcases keyIs_shape hb with ⟨j, u, rfl, e⟩ | ⟨y, u, rfl, e⟩
      · injection e with e1 _; rw [e1]
      · exact nomatch e
    · rcases keyIs_shape hb with ⟨j, u, rfl, e⟩ | ⟨y, u, rfl, e⟩
      · exact nomatch e
      · injection e with e1 _; rw [e1]
  byValue := fun k v h => by
    rcases keyIs_shape h with ⟨i, t, rfl, rfl⟩ | ⟨x, t, rfl, rfl⟩ <;> rfl
  pyHash := fun hv h => by
    rcases keyIs_shape hv with ⟨i, t, rfl, rfl⟩ | ⟨x, t, rfl, rfl⟩
    · exact wpAny_pyHash_int h
    · exact wpAny_pyHash_str h
  eqBool := fun hu hv h => by
    rcases keyIs_shape hu with ⟨i, t, rfl, rfl⟩ | ⟨x, t, rfl, rfl⟩
    · rcases keyIs_shape hv with ⟨j, u, rfl, rfl⟩ | ⟨y, u, rfl, rfl⟩
      · rw [key_ll] at h; exact wpAny_eqBool_int h
      · rw [key_lr] at h; exact SeqAt.EqAt.int_str i t y u _ _ _ _ h
    · rcases keyIs_shape hv with ⟨j, u, rfl, rfl⟩ | ⟨y, u, rfl, rfl⟩
      · rw [key_rl] at h; exact SeqAt.EqAt.str_int x t j u _ _ _ _ h
      · rw [key_rr] at h; exact wpAny_eqBool_str h
  «strs» := fun k x t v h => by
    rcases keyIs_shape h with ⟨i, u, rfl, e⟩ | ⟨y, u, rfl, e⟩
    · exact nomatch e
    · injection e with e1 _
      subst e1
      cases v <;> rfl

end L2
namespace L2
open PySem PySem.Spec PyProof.Rows
inductive V where
  | non | bl (b : Bool) | int (i : Int) | str (x : Str) | byt (b : Array UInt8) | flt (b : UInt64) | ref (a : Addr) | ty (n : String)
  deriving DecidableEq

def RelV : V → Value → Prop
  | .non, u => u = Value.none
  | .bl b, u => u = Value.bool b
  | .int i, u => ∃ t, u = Value.int i t
  | .str x, u => ∃ t, u = Value.str x t
  | .byt b, u => ∃ t, u = Value.bytes b t
  | .flt b, u => ∃ t, u = Value.float b t
  | .ref a, u => u = Value.ref a
  | .ty n, u => u = Value.type n

abbrev Vals : List V → List Value → Prop := Paired RelV
theorem Vals.length {xs : List V} {us : List Value} (r : Vals xs us) : xs.length = us.length := Paired.length r
theorem Vals.get : ∀ {xs : List V} {us : List Value} {i : Nat} {x : V}, Vals xs us → xs[i]? = some x → ∃ u, us[i]? = some u ∧ RelV x u
  | _, _, _, _, .nil, e => by simp at e
  | _, _, 0, _, .cons r _, e => by simp at e; subst e; exact ⟨_, rfl, r⟩
  | _, _, i + 1, x, .cons _ t, e => by
    obtain ⟨u, h1, h2⟩ := Vals.get (i := i) (x := x) t (by simpa using e)
    exact ⟨u, by simpa using h1, h2⟩
theorem Vals.set {x : V} {u : Value} (r : RelV x u) : ∀ {xs : List V} {us : List Value} (i : Nat), Vals xs us → Vals (xs.set i x) (us.set i u)
  | _, _, _, .nil => .nil
  | _, _, 0, .cons _ t => .cons r t
  | _, _, i + 1, .cons q t => .cons q (Vals.set r i t)
theorem Vals.append : ∀ {xs ys : List V} {us ws : List Value}, Vals xs us → Vals ys ws → Vals (xs ++ ys) (us ++ ws)
  | _, _, _, _, .nil, s => s
  | _, _, _, _, .cons r t, s => .cons r (Vals.append t s)
theorem Vals.take : ∀ {xs : List V} {us : List Value} (n : Nat), Vals xs us → Vals (xs.take n) (us.take n)
  | _, _, 0, _ => .nil
  | _, _, _ + 1, .nil => .nil
  | _, _, n + 1, .cons r t => .cons r (Vals.take n t)
theorem Vals.drop : ∀ {xs : List V} {us : List Value} (n : Nat), Vals xs us → Vals (xs.drop n) (us.drop n)
  | _, _, 0, r => r
  | _, _, _ + 1, .nil => .nil
  | _, _, n + 1, .cons _ t => Vals.drop n t
def RelO : Option V → Option Value → Prop
  | some v, some u => RelV v u
  | none, none => True
  | _, _ => False
def KV {κ : Type} : List (κ × V) → List (κ × Value) → Prop := Paired fun (p : κ × V) (q : κ × Value) => p.1 = q.1 ∧ RelV p.2 q.2

def kV : Key → V
  | .inl i => .int i
  | .inr x => .str x

inductive HO where
  /-- a list -/
  | lst (xs : List V)
  /-- a tuple (never changes) -/
  | tup (xs : List V)
  /-- a dict whose keys are ints and texts; one whose keys are tuples of ints and texts (the empty one is both) -/
  | dK (kvs : List (Key × V)) | dT (kvs : List (List Key × V))
  /-- a set of ints: its members, its size -/
  | set (S : Int → Bool) (n : Nat)
  /-- an instance of the class at C, its dict at dx, its attributes -/
  | ins (C dx : Addr) (fs : List (Str × V))
  /-- the dict of the instance at x -/
  | own (x : Addr)
  /-- the dict of an exception -/
  | xd (fs : List (Str × V))
  /-- a bound method, f of x -/
  | met (f x : Addr)
  /-- a range object lo, lo + 1, .. below hi -/
  | rng (lo hi : Int)
  /-- a thing that is known to the object (the script; a dict while a loop walks it): read, never written while it is so -/
  | frz (o : Obj) (u : HO)
  /-- a code object's table -/
  | tbl (ps : Array Value)
  /-- any other thing, by what is true of its one object (a def of one's own: SetO a S n := HO.ext fun h => ..) -/
  | ext (φ : Heap → Prop)

abbrev Hp := Addr → Option HO
def upd (H : Hp) (a : Addr) (o : HO) : Hp := fun b => if b = a then some o else H b
theorem upd_same {H : Hp} {a : Addr} {o : HO} : upd H a o a = some o := by unfold upd; rw [if_pos rfl]
theorem upd_ne {H : Hp} {a b : Addr} {o : HO} (h : b ≠ a) : upd H a o b = H b := by unfold upd; rw [if_neg h]
theorem ne_of_none {H : Hp} {a b : Addr} {o : HO} (h : H a = some o) (h' : H b = none) : a ≠ b := by
  intro e; subst e; rw [h] at h'; cases h'

section
variable (P : Program) (w : World)
def ObjOk (H : Hp) (h : Heap) (a : Addr) : HO → Prop
  | .lst xs => xs.length ≤ sizeLine ∧ ∃ (its : List Value) (n : Nat), Vals xs its ∧ h.get? a = some { cls := .type "list", data := .seq its.toArray n }
  | .tup xs => xs.length ≤ sizeLine ∧ ∃ its : List Value, Vals xs its ∧ IsTup h a its.toArray
  | .dK kvs => kvs.length ≤ sizeLine ∧ (a == sysModules) = false ∧ ∃ vs, KV kvs vs ∧ h.DictOf (mixKind P w) a vs
  | .dT kvs => kvs.length ≤ sizeLine ∧ (a == sysModules) = false ∧ ∃ xs : List (List Key × Addr × Value),
      Paired (fun (p : List Key × V) (q : List Key × Addr × Value) => p.1 = q.1 ∧ H q.2.1 = some (.tup (p.1.map kV)) ∧ RelV p.2 q.2.2) kvs xs ∧
      ∃ o es ep, h.get? a = some o ∧ o.ExactDict ∧ o.data = .dict es ep ∧ es.toList = xs.map (entryOfKey (tupleKind (mixKind P w))) ∧ (xs.map (·.1)).Nodup
  | .set S n => h.SetOf (intKind P w) a S n
  | .ins C dx fs => H dx = some (.own a) ∧ fs.length ≤ 1000 ∧ dx ≠ a ∧ h.get? a = some (PySem.W.instObj C dx) ∧
      ∃ mA, h.Ns1 dx mA ∧ (∀ f, RelO (fs.lookup f) (mA f)) ∧ PySem.Within mA (fs.map (·.1))
  | .own _ => ∃ o, h.get? a = some o
  | .xd fs => ∃ mA, h.Ns1 a mA ∧ ∀ f, RelO (fs.lookup f) (mA f)
  | .rng lo hi => ∃ t u v, h.get? a = some { cls := .type "range", data := .fields #[.int lo t, .int hi u, .int 1 v] }
  | .frz o u => h.get? a = some o ∧ ObjOk H h a u
  | .tbl ps => h.get? a = some { cls := .none, data := .fields ps }
  | .met f x => h.get? a = some (PySem.W.methodObj (.ref f) (.ref x))
  | .ext φ => φ h ∧ (∃ o, h.get? a = some o) ∧ ∀ h1 h2 : Heap, φ h1 → (∀ o, h1.get? a = some o → h2.get? a = some o) → φ h2
def HOk (H : Hp) (h : Heap) : Prop := ∀ a o, H a = some o → ObjOk P w H h a o
end
section
variable {P : Program} {w : World} {H H' : Hp} {h h' : Heap} {a : Addr} {o : HO}
theorem ObjOk.lt (x : ObjOk P w H h a o) : a < h.objs.size := by
  cases o with
  | lst xs => obtain ⟨_, _, _, _, e⟩ := x; exact Heap.lt_size e
  | tup xs => obtain ⟨_, _, _, p⟩ := x; exact p.lt
  | dK kvs => obtain ⟨_, _, _, _, o, _, _, e, _⟩ := x; exact Heap.lt_size e
  | dT kvs => obtain ⟨_, _, _, _, o, _, _, e, _⟩ := x; exact Heap.lt_size e
  | set S n => obtain ⟨o, _, _, _, e, _⟩ := x; exact Heap.lt_size e
  | ins C dx fs => obtain ⟨_, _, _, e, _⟩ := x; exact Heap.lt_size e
  | own y => obtain ⟨_, e⟩ := x; exact Heap.lt_size e
  | xd fs => obtain ⟨_, ⟨_, _, _, e, _⟩, _⟩ := x; exact Heap.lt_size e
  | rng lo hi => obtain ⟨_, _, _, e⟩ := x; exact Heap.lt_size e
  | frz ob u => obtain ⟨e, _⟩ := x; exact Heap.lt_size e
  | tbl ps => exact Heap.lt_size (show h.get? a = some _ from x)
  | met f y => exact Heap.lt_size (show h.get? a = some _ from x)
  | ext φ => obtain ⟨_, ⟨_, e⟩, _⟩ := x; exact Heap.lt_size e
theorem Paired.mapP {α β : Type} {F G : α → β → Prop} : ∀ {l₁ : List α} {l₂ : List β}, Paired F l₁ l₂ → (∀ a b, F a b → G a b) → Paired G l₁ l₂
  | _, _, .nil, _ => .nil
  | _, _, .cons r t, f => .cons (f _ _ r) (Paired.mapP t f)
theorem ObjOk.stay (x : ObjOk P w H h a o) (k : ∀ b u, (b = a ∨ H b = some (.own a)) → h.get? b = some u → h'.get? b = some u)
    (ho : ∀ b, H b = some (.own a) → H' b = some (.own a)) (ht : ∀ b xs, H b = some (.tup xs) → H' b = some (.tup xs)) : ObjOk P w H' h' a o := by
  induction o with
  | lst xs => obtain ⟨z, its, n, r, e⟩ := x; exact ⟨z, its, n, r, k _ _ (.inl rfl) e⟩
  | tup xs => obtain ⟨z, its, r, ob, e, c⟩ := x; exact ⟨z, its, r, ob, k _ _ (.inl rfl) e, c⟩
  | dK kvs => obtain ⟨z, y, vs, r, ob, es, ep, e, c⟩ := x; exact ⟨z, y, vs, r, ob, es, ep, k _ _ (.inl rfl) e, c⟩
  | dT kvs =>
    obtain ⟨z, y, xs, r, ob, es, ep, e, c⟩ := x
    exact ⟨z, y, xs, Paired.mapP r fun p q z => ⟨z.1, ht _ _ z.2.1, z.2.2⟩, ob, es, ep, k _ _ (.inl rfl) e, c⟩
  | set S n => obtain ⟨ob, es, ep, t, e, c⟩ := x; exact ⟨ob, es, ep, t, k _ _ (.inl rfl) e, c⟩
  | ins C dx fs =>
    obtain ⟨d, z, ne, e, mA, ⟨od, es, ep, e2, c⟩, r⟩ := x
    exact ⟨ho _ d, z, ne, k _ _ (.inl rfl) e, mA, ⟨od, es, ep, k _ _ (.inr d) e2, c⟩, r⟩
  | own y => obtain ⟨ob, e⟩ := x; exact ⟨ob, k _ _ (.inl rfl) e⟩
  | xd fs => obtain ⟨mA, ⟨od, es, ep, e, c⟩, r⟩ := x; exact ⟨mA, ⟨od, es, ep, k _ _ (.inl rfl) e, c⟩, r⟩
  | rng lo hi => obtain ⟨t, u, v, e⟩ := x; exact ⟨t, u, v, k _ _ (.inl rfl) e⟩
  | frz ob u ih => obtain ⟨e, q⟩ := x; exact ⟨k _ _ (.inl rfl) e, ih q⟩
  | tbl ps =>
    have e : h.get? a = some { cls := .none, data := .fields ps } := x
    show h'.get? a = some { cls := .none, data := .fields ps }
    exact k a _ (.inl rfl) e
  | met f y =>
    have e : h.get? a = some (PySem.W.methodObj (.ref f) (.ref y)) := x
    show h'.get? a = some (PySem.W.methodObj (.ref f) (.ref y))
    exact k a _ (.inl rfl) e
  | ext φ => obtain ⟨p, ⟨o, e⟩, st⟩ := x; exact ⟨st _ _ p fun o q => k _ _ (.inl rfl) q, ⟨o, k _ _ (.inl rfl) e⟩, st⟩
theorem HOk.lt (x : HOk P w H h) (e : H a = some o) : a < h.objs.size := (x a o e).lt
theorem HOk.fresh (x : HOk P w H h) (e : h.objs.size ≤ a) : H a = none := by
  cases q : H a with
  | none => rfl
  | some u => exact absurd (Nat.lt_of_lt_of_le (x.lt q) e) (Nat.lt_irrefl _)
theorem HOk.kept (x : HOk P w H h) (k : ∀ b u, h.get? b = some u → h'.get? b = some u) : HOk P w H h' := fun a o e =>
  (x a o e).stay (fun b u _ q => k b u q) (fun _ q => q) fun _ _ q => q
theorem HOk.laid (x : HOk P w H h) (k : ∀ b u, h.get? b = some u → h'.get? b = some u) (hp : h.objs.size ≤ a) (new : ObjOk P w (upd H a o) h' a o) : HOk P w (upd H a o) h' := fun b u e => by
  have hn := x.fresh hp
  by_cases hb : b = a
  · subst hb; rw [upd_same] at e; cases e; exact new
  · rw [upd_ne hb] at e
    exact (x b u e).stay (fun c v _ q => k c v q) (fun c q => by rw [upd_ne (ne_of_none q hn)]; exact q) fun c xs q => by rw [upd_ne (ne_of_none q hn)]; exact q
end
def Rd (H : Hp) (a : Addr) (u : HO) : Prop := H a = some u ∨ ∃ o, H a = some (.frz o u)
theorem Rd.ok {P : Program} {w : World} {H : Hp} {h : Heap} {a : Addr} {u : HO} (r : Rd H a u) (x : HOk P w H h) : ObjOk P w H h a u := by
  rcases r with r | ⟨o, r⟩
  · exact x a u r
  · obtain ⟨_, q⟩ := x a _ r
    exact q
def Mut : Option HO → Prop
  | some (.lst _) => True
  | some (.dK _) => True
  | some (.dT _) => True
  | some (.set _ _) => True
  | some (.ins _ _ _) => True
  | some (.ext _) => True
  | _ => False
section
variable {P : Program} {w : World} {H : Hp} {h h' : Heap} {x e : Addr} {o' : HO}
theorem HOk.write (ok : HOk P w H h) (mu : Mut (H x)) (he : e = x ∨ H e = some (.own x)) (k : ∀ b u, b ≠ e → h.get? b = some u → h'.get? b = some u) (heo : ∃ u, h'.get? e = some u)
    (new : ObjOk P w (upd H x o') h' x o') : HOk P w (upd H x o') h' := fun b u q => by
  have nown : ∀ c y, H c = some (.own y) → c ≠ x := fun c y r z => by subst z; rw [r] at mu; exact mu
  have ntup : ∀ c xs, H c = some (.tup xs) → c ≠ x := fun c xs r z => by subst z; rw [r] at mu; exact mu
  by_cases hb : b = x
  · subst hb; rw [upd_same] at q; cases q; exact new
  · rw [upd_ne hb] at q
    by_cases hbe : b = e
    · have q' : H b = some (.own x) := by
        rcases he with z | z
        · exact absurd (hbe.trans z) hb
        · rw [hbe]; exact z
      rw [q] at q'; cases q'
      obtain ⟨v, hv⟩ := heo
      exact ⟨v, by rw [hbe]; exact hv⟩
    · refine (ok b u q).stay (fun c v hc r => k c v ?_ r) (fun c r => by rw [upd_ne (nown c b r)]; exact r) fun c xs r => by rw [upd_ne (ntup c xs r)]; exact r
      rcases hc with rfl | hc
      · exact hbe
      · rintro rfl
        rcases he with z | z
        · exact nown c b hc z
        · rw [hc] at z; cases z; exact hb rfl
end
structure Un (fs ex : List Addr) (H H' : Hp) (h h' : Heap) : Prop where
  keep : ∀ b o, h.get? b = some o → H b = none → b ∉ fs → b ∉ ex → h'.get? b = some o
  slot : ∀ b o, h.get? b = some o → H b = none → b ∈ fs → b ∉ ex → ∃ sl, h'.get? b = some { o with slots := sl }
  free : ∀ b o, h.get? b = some o → H b = none → b ∉ ex → H' b = none
  there : ∀ b o, h.get? b = some o → b ∉ ex → ∃ o', h'.get? b = some o'
  tups : ∀ b xs, H b = some (.tup xs) → H' b = some (.tup xs)
  frzs : ∀ b o u, H b = some (.frz o u) → H' b = some (.frz o u)
  tbls : ∀ b ps, H b = some (.tbl ps) → ∃ more, H' b = some (.tbl (ps ++ more))
section
variable {fs fs' ex ex' : List Addr} {H H1 H2 : Hp} {h h1 h2 h' : Heap} {a x e : Addr} {o : HO}
theorem Un.any (u : Un fs ex H H1 h h1) {b : Addr} {ob : Obj} (q : h.get? b = some ob) (n : H b = none) (hx : b ∉ ex) : ∃ sl, h1.get? b = some { ob with slots := sl } := by
  by_cases hb : b ∈ fs
  · exact u.slot b ob q n hb hx
  · exact ⟨ob.slots, u.keep b ob q n hb hx⟩
theorem Un.trans (a : Un fs ex H H1 h h1) (b : Un fs ex H1 H2 h1 h2) : Un fs ex H H2 h h2 where
  keep := fun c ob q n hc hx => b.keep c ob (a.keep c ob q n hc hx) (a.free c ob q n hx) hc hx
  slot := fun c ob q n hc hx => by
    obtain ⟨sl, e1⟩ := a.slot c ob q n hc hx
    obtain ⟨sl', e2⟩ := b.slot c _ e1 (a.free c ob q n hx) hc hx
    exact ⟨sl', e2⟩
  free := fun c ob q n hx => by
    obtain ⟨o', e1⟩ := a.there c ob q hx
    exact b.free c o' e1 (a.free c ob q n hx) hx
  there := fun c ob q hx => by
    obtain ⟨o', e1⟩ := a.there c ob q hx
    exact b.there c o' e1 hx
  tups := fun c xs q => b.tups c xs (a.tups c xs q)
  frzs := fun c ob xs q => b.frzs c ob xs (a.frzs c ob xs q)
  tbls := fun c ps q => by
    obtain ⟨m1, e1⟩ := a.tbls c ps q
    obtain ⟨m2, e2⟩ := b.tbls c _ e1
    exact ⟨m1 ++ m2, by rw [e2, Array.append_assoc]⟩
theorem Un.kept (k : ∀ b u, h.get? b = some u → h'.get? b = some u) : Un fs ex H H h h' :=
  ⟨fun b ob q _ _ _ => k b ob q, fun b ob q _ _ _ => ⟨ob.slots, k b ob q⟩, fun _ _ _ n _ => n, fun b ob q _ => ⟨ob, k b ob q⟩, fun _ _ q => q, fun _ _ _ q => q, fun _ ps q => ⟨#[], by rw [q]; simp⟩⟩
theorem Un.refl : Un fs ex H H h h := Un.kept fun _ _ q => q
theorem Un.laid (k : ∀ b u, h.get? b = some u → h'.get? b = some u) (hp : h.objs.size ≤ a) (hn : H a = none) : Un fs ex H (upd H a o) h h' where
  keep := fun b u q _ _ _ => k b u q
  slot := fun b u q _ _ _ => ⟨u.slots, k b u q⟩
  free := fun b u q n _ => by rw [upd_ne (Nat.ne_of_lt (Nat.lt_of_lt_of_le (Heap.lt_size q) hp))]; exact n
  there := fun b u q _ => ⟨u, k b u q⟩
  tups := fun b xs q => by rw [upd_ne (ne_of_none q hn)]; exact q
  frzs := fun b u xs q => by rw [upd_ne (ne_of_none q hn)]; exact q
  tbls := fun b ps q => ⟨#[], by rw [upd_ne (ne_of_none q hn), q]; simp⟩
theorem Un.write (mu : Mut (H x)) (he : e = x ∨ H e = some (.own x)) (k : ∀ b u, b ≠ e → h.get? b = some u → h'.get? b = some u) (heo : ∃ u, h'.get? e = some u) : Un fs ex H (upd H x o) h h' := by
  have hx : ∀ b, H b = none → b ≠ x := fun b n z => by subst z; rw [n] at mu; exact mu
  have hb : ∀ b, H b = none → b ≠ e := fun b n z => by
    subst z
    rcases he with r | r
    · exact hx b n r
    · rw [n] at r; cases r
  have hm : ∀ b u, H b = some u → ¬ Mut (some u) → b ≠ x := fun b u q nm z => by subst z; rw [q] at mu; exact nm mu
  refine ⟨fun b u q n _ _ => k b u (hb b n) q, fun b u q n _ _ => ⟨u.slots, k b u (hb b n) q⟩, fun b u q n _ => by rw [upd_ne (hx b n)]; exact n, fun b u q _ => ?_,
    fun b xs q => by rw [upd_ne (hm b _ q fun z => z)]; exact q, fun b u xs q => by rw [upd_ne (hm b _ q fun z => z)]; exact q, fun b ps q => ⟨#[], by rw [upd_ne (hm b _ q fun z => z), q]; simp⟩⟩
  by_cases hbe : b = e
  · subst hbe; exact heo
  · exact ⟨u, k b u hbe q⟩
end
def trk (h : Heap) (H : Hp) : List Addr := (List.range h.objs.size).filter fun a => (H a).isSome
def hidT (h : Heap) (H : Hp) : Heap := PySem.W.hideAll h (trk h H)
theorem hidT_size (h : Heap) (H : Hp) : (hidT h H).objs.size = h.objs.size := PySem.W.hideAll_size _ _
theorem hidT_get {h : Heap} {H : Hp} {b : Addr} {o : Obj} (e : h.get? b = some o) (n : H b = none) : (hidT h H).get? b = some o :=
  PySem.W.hideAll_get _ e fun hm => by
    have q : (H b).isSome = true := (List.mem_filter.mp hm).2
    rw [n] at q; simp at q
theorem of_hidT {h : Heap} {H : Hp} {b : Addr} {o : Obj} (e : (hidT h H).get? b = some o) : h.get? b = some o ∧ H b = none := by
  have e' : h.get? b = some o := PySem.W.of_hideAll (trk h H) e
  refine ⟨e', ?_⟩
  cases q : H b with
  | none => rfl
  | some x =>
    have hm : b ∈ trk h H := List.mem_filter.mpr ⟨List.mem_range.mpr (Heap.lt_size e'), by simp [q]⟩
    have z : (hidT h H).get? b = none := PySem.W.hideAll_none (trk h H) hm
    rw [z] at e; cases e

end L2
namespace L2
open PySem PySem.Spec PyProof.Rows
structure Mod (K : PySem.W.Frag) (mg : Str → Option Value) (base : Heap) : Prop where
  kin : K.In base
  glob : base.Ns mainGlobals mg
  blt : ∃ mb, base.Ns builtinsNs mb ∧ ∀ x : Str, x ≠ "__name__" → mb x = bootBuiltins x
  nolimit : base.NoLimit

structure Cx where
  prog : Program
  w : World
  K : PySem.W.Frag
  mg : Str → Option Value
  base : Heap
  A : Around
  N : List Str
  s₀ : Shared
  H₀ : Hp
  env : Env
  outer : List Env
  stack : List Env
  ex : List Addr
  fn : Str → Bool
  calm : Bool
  pn : List (Addr × Obj)
  xe : Value → Shared → Prop
def frs (l : List Env) : List Addr := l.filterMap (·.frame)
abbrev Cx.fs (X : Cx) : List Addr := frs X.outer

def Vis (sc : Scope) (x : Str) : Prop := sc.names.lookup x = some .local ∨ sc.names.lookup x = some .cell ∨ sc.names.lookup x = some .free
def Loc (sc : Scope) (x : Str) : Prop := sc.names.lookup x = some .local ∨ sc.names.lookup x = some .cell
def Look (env : Env) (h : Heap) (m : Str → Option Value) (x : Str) (u : Value) : Prop :=
  (env.kindOf x = some .local ∧ m x = some u) ∨ ((env.kindOf x = some .cell ∨ env.kindOf x = some .free) ∧ ∃ c, env.cells.lookup x = some c ∧ h.IsCell c (some u))

structure Cx.Ok (X : Cx) : Prop where
  mod : Mod X.K X.mg X.base
  kind : X.env.scope.kind = .function
  glob : X.env.globals = mainGlobals
  blt : X.env.builtins = builtinsNs
  above : X.s₀.heap.objs.size ≤ X.env.locals
  inj : ∀ x y c, X.env.cells.lookup x = some c → X.env.cells.lookup y = some c → x = y
  has : ∀ x, (X.env.kindOf x = some .cell ∨ X.env.kindOf x = some .free) → ∃ c, X.env.cells.lookup x = some c
  cab : ∀ x c, X.fn x = true → X.env.cells.lookup x = some c → X.s₀.heap.objs.size ≤ c
  hd : X.calm = true → X.A.handled = none
  frames : X.A.frames = some X.stack
  stk : X.stack = X.outer ∨ (X.stack = X.env :: X.outer ∧ X.env.frame = some X.env.locals)
  exf : ∀ b ∈ X.ex, b ≠ X.env.locals ∧ ∀ x c, X.env.cells.lookup x = some c → c ≠ b
  bs : ∀ b o, X.base.get? b = some o → X.s₀.heap.get? b = some o ∧ X.H₀ b = none
  bsz : X.base.objs.size ≤ X.s₀.heap.objs.size
  noex : ∀ b o, X.base.get? b = some o → b ∉ X.ex
  exfs : ∀ b ∈ X.ex, b ∉ X.fs
  funs : X.s₀.heap.FunFrames X.base X.outer
  frf : ∀ b ∈ X.fs, X.H₀ b = none

structure Inv (X : Cx) (pins : List (Addr × Obj)) (σ : List (Option V)) (H : Hp) (s : Shared) : Prop where
  ok : X.Ok
  os : s.os = X.s₀.os
  bare : AllBare s.gens
  base : Un X.fs X.ex X.H₀ H X.s₀.heap s.heap
  loc : ∃ m, s.heap.Ns X.env.locals m ∧ ∀ (i : Nat) (x : Str) (v : V), X.N[i]? = some x → σ[i]? = some (some v) → Vis X.env.scope x → ∃ u, RelV v u ∧ Look X.env s.heap m x u
  cell : ∀ x c, X.env.cells.lookup x = some c → ∃ v, s.heap.IsCell c v
  free : H X.env.locals = none
  freeC : ∀ x c, X.env.cells.lookup x = some c → H c = none
  pin : ∀ p ∈ X.pn ++ pins, s.heap.get? p.1 = some p.2 ∧ H p.1 = none ∧ p.1 ≠ X.env.locals ∧ p.1 ∉ X.fs ∧ ∀ v, p.2.data ≠ .cell v
  hok : HOk X.prog X.w H s.heap
  len : σ.length = X.N.length

section
variable {X : Cx} {pins : List (Addr × Obj)} {σ : List (Option V)} {H H' : Hp} {s : Shared} {h' : Heap}
theorem Cx.Ok.nofr (ok : X.Ok) {b : Addr} {o : Obj} (e : X.base.get? b = some o) : b ∉ X.fs := fun hb => by
  have := (ok.funs.mem hb).1
  rw [e] at this; cases this
theorem Inv.bs (I : Inv X pins σ H s) : ∀ b o, X.base.get? b = some o → s.heap.get? b = some o ∧ H b = none := fun b o e =>
  ⟨I.base.keep b o (I.ok.bs b o e).1 (I.ok.bs b o e).2 (I.ok.nofr e) (I.ok.noex b o e), I.base.free b o (I.ok.bs b o e).1 (I.ok.bs b o e).2 (I.ok.noex b o e)⟩
theorem Inv.bk (I : Inv X pins σ H s) : ∀ b o, X.base.get? b = some o → s.heap.get? b = some o := fun b o e => (I.bs b o e).1
theorem Inv.mod (I : Inv X pins σ H s) : Mod X.K X.mg X.base := I.ok.mod
theorem Inv.kIn (I : Inv X pins σ H s) : X.K.In s.heap := I.ok.mod.kin.keeps I.bk
theorem Inv.lt (I : Inv X pins σ H s) : X.env.locals < s.heap.objs.size := let ⟨_, hn, _⟩ := I.loc; hn.lt
theorem Inv.sz (I : Inv X pins σ H s) : X.s₀.heap.objs.size ≤ s.heap.objs.size := Nat.le_trans I.ok.above (Nat.le_of_lt I.lt)
theorem Inv.nofs (I : Inv X pins σ H s) {a : Addr} (h : s.heap.objs.size ≤ a) : a ∉ X.fs := fun hb => by
  obtain ⟨_, o, ho, _⟩ := I.ok.funs.mem hb
  exact absurd (Nat.lt_of_lt_of_le (Heap.lt_size ho) (Nat.le_trans I.sz h)) (Nat.lt_irrefl _)
theorem Inv.cne (I : Inv X pins σ H s) : ∀ x c, X.env.cells.lookup x = some c → c ≠ X.env.locals := fun x c e z => by
  obtain ⟨v, o, ho, hd⟩ := I.cell x c e
  obtain ⟨m, ⟨o', es, ep, ho', hd', _⟩, _⟩ := I.loc
  rw [z, ho'] at ho; cases ho; rw [hd'] at hd; cases hd
theorem Inv.funs (I : Inv X pins σ H s) : s.heap.FunFrames X.base X.outer := by
  have all : ∀ (l : List Env), (∀ b ∈ frs l, b ∈ X.fs) → X.s₀.heap.FunFrames X.base l → s.heap.FunFrames X.base l := by
    intro l
    induction l with
    | nil => intro _ _; trivial
    | cons env r ih =>
      intro hs hl
      obtain ⟨hk, ⟨L, o, hf, hn, ho, hd⟩, hr⟩ := hl
      have hL : L ∈ X.fs := hs L (by unfold frs; rw [List.filterMap_cons, hf]; exact List.mem_cons_self)
      obtain ⟨sl, e⟩ := I.base.slot L o ho (I.ok.frf L hL) hL fun z => I.ok.exfs L z hL
      exact ⟨hk, ⟨L, _, hf, hn, e, hd⟩, ih (fun b hb => hs b (by unfold frs; rw [List.filterMap_cons, hf]; exact List.mem_cons_of_mem _ hb)) hr⟩
  exact all X.outer (fun _ hb => hb) I.ok.funs

theorem Inv.stack (I : Inv X pins σ H s) : s.heap.FunFrames X.base X.stack := by
  rcases I.ok.stk with e | ⟨e, hf⟩
  · rw [e]; exact I.funs
  · rw [e]
    obtain ⟨m, hn, _⟩ := I.loc
    refine .cons (by rw [I.ok.kind]; decide) hf hn ?_ I.funs
    exact Heap.get?_none_of_le (Nat.le_trans I.ok.bsz I.ok.above)
theorem Inv.stkSub (I : Inv X pins σ H s) : ∀ b ∈ frs X.stack, b ∈ X.env.locals :: X.fs := fun b hb => by
  rcases I.ok.stk with e | ⟨e, hf⟩
  · rw [e] at hb; exact List.mem_cons_of_mem _ hb
  · rw [e] at hb
    unfold frs at hb
    rw [List.filterMap_cons, hf] at hb
    exact hb
theorem Inv.stkFree (I : Inv X pins σ H s) : ∀ b ∈ frs X.stack, H b = none := fun b hb => by
  rcases List.mem_cons.mp (I.stkSub b hb) with e | hb
  · rw [e]; exact I.free
  · obtain ⟨_, o, ho, _⟩ := I.ok.funs.mem hb
    exact I.base.free b o ho (I.ok.frf b hb) fun z => I.ok.exfs b z hb

theorem Inv.step {g' : Array GenState} {t' : Nat} {d' : Drawn} {ch : List Addr} (I : Inv X pins σ H s)
    (hch : ∀ b ∈ ch, (b ∈ X.ex ∨ X.s₀.heap.objs.size ≤ b) ∧ b ≠ X.env.locals ∧ (∀ x c, X.env.cells.lookup x = some c → c ≠ b) ∧ ∀ p ∈ X.pn ++ pins, p.1 ≠ b)
    (keep : ∀ b o, b ≠ X.env.locals → b ∉ X.fs → b ∉ ch → s.heap.get? b = some o → H b = none → h'.get? b = some o)
    (slot : ∀ b o, b ≠ X.env.locals → b ∈ X.fs → b ∉ ch → s.heap.get? b = some o → H b = none → ∃ sl, h'.get? b = some { o with slots := sl }) (free : ∀ b o, b ∉ ch → s.heap.get? b = some o → H b = none → H' b = none)
    (there : ∀ b o, b ∉ ch → s.heap.get? b = some o → ∃ o', h'.get? b = some o')
    (tups : ∀ b xs, H b = some (.tup xs) → H' b = some (.tup xs)) (frzs : ∀ b o u, H b = some (.frz o u) → H' b = some (.frz o u)) (tbls : ∀ b ps, H b = some (.tbl ps) → ∃ more, H' b = some (.tbl (ps ++ more)))
    (ns : ∀ m, s.heap.Ns X.env.locals m → h'.Ns X.env.locals m) (hok : HOk X.prog X.w H' h') (hg : AllBare g') :
    Inv X pins σ H' { s with heap := h', gens := g', drawn := d', toks := t' } := by
  have neL : ∀ b o, X.s₀.heap.get? b = some o → b ≠ X.env.locals := fun b o e => Nat.ne_of_lt (Nat.lt_of_lt_of_le (Heap.lt_size e) I.ok.above)
  have neC : ∀ b o, X.s₀.heap.get? b = some o → b ∉ X.ex → b ∉ ch := fun b o e hx hb => by
    rcases (hch b hb).1 with z | z
    · exact hx z
    · exact absurd (Nat.lt_of_lt_of_le (Heap.lt_size e) z) (Nat.lt_irrefl _)
  have cellK : ∀ x c, X.env.cells.lookup x = some c → ∀ v, s.heap.IsCell c v → h'.IsCell c v := fun x c e v ⟨o, ho, hd⟩ => by
    have nch : c ∉ ch := fun z => (hch c z).2.2.1 x c e rfl
    by_cases hc : c ∈ X.fs
    · obtain ⟨sl, q⟩ := slot c o (I.cne x c e) hc nch ho (I.freeC x c e)
      exact ⟨_, q, hd⟩
    · exact ⟨o, keep c o (I.cne x c e) hc nch ho (I.freeC x c e), hd⟩
  refine ⟨I.ok, I.os, hg, ⟨fun b o e n hb hx => ?_, fun b o e n hb hx => ?_, fun b o e n hx => ?_, fun b o e hx => ?_, fun b xs e => tups b xs (I.base.tups b xs e), fun b o xs e => frzs b o xs (I.base.frzs b o xs e), fun b ps e => ?_⟩, ?_, fun x c e => ?_, ?_, fun x c e => ?_, fun p hp => ?_, hok, I.len⟩
  · exact keep b o (neL b o e) hb (neC b o e hx) (I.base.keep b o e n hb hx) (I.base.free b o e n hx)
  · obtain ⟨sl, e1⟩ := I.base.slot b o e n hb hx
    obtain ⟨sl', e2⟩ := slot b _ (neL b o e) hb (neC b o e hx) e1 (I.base.free b o e n hx)
    exact ⟨sl', e2⟩
  · obtain ⟨o', e1⟩ := I.base.there b o e hx
    exact free b o' (neC b o e hx) e1 (I.base.free b o e n hx)
  · obtain ⟨o', e1⟩ := I.base.there b o e hx
    exact there b o' (neC b o e hx) e1
  · obtain ⟨m1, e1⟩ := I.base.tbls b ps e
    obtain ⟨m2, e2⟩ := tbls b _ e1
    exact ⟨m1 ++ m2, by rw [e2, Array.append_assoc]⟩
  · obtain ⟨m, hn, hl⟩ := I.loc
    refine ⟨m, ns m hn, fun i x v e1 e2 e3 => ?_⟩
    obtain ⟨u, r, l⟩ := hl i x v e1 e2 e3
    refine ⟨u, r, ?_⟩
    rcases l with l | ⟨k, c, e, z⟩
    · exact .inl l
    · exact .inr ⟨k, c, e, cellK x c e _ z⟩
  · obtain ⟨v, z⟩ := I.cell x c e
    exact ⟨v, cellK x c e v z⟩
  · obtain ⟨m, ⟨o, _, _, ho, _⟩, _⟩ := I.loc
    exact free _ o (fun z => (hch _ z).2.1 rfl) ho I.free
  · obtain ⟨v, o, ho, hd⟩ := I.cell x c e
    exact free c o (fun z => (hch c z).2.2.1 x c e rfl) ho (I.freeC x c e)
  · obtain ⟨e, n, ne, nf, d⟩ := I.pin p hp
    have nch : p.1 ∉ ch := fun z => (hch p.1 z).2.2.2 p hp rfl
    exact ⟨keep p.1 p.2 ne nf nch e n, free p.1 p.2 nch e n, ne, nf, d⟩
theorem Inv.un {t' : Nat} (I : Inv X pins σ H s) (u : Un X.fs [] H H' s.heap h') (hok : HOk X.prog X.w H' h') : Inv X pins σ H' { s with heap := h', toks := t' } := by
  obtain ⟨m, ⟨o, es, ep, ho, r⟩, _⟩ := id I.loc
  obtain ⟨sl, hL⟩ := u.any ho I.free (by simp)
  exact I.step (g' := s.gens) (d' := s.drawn) (ch := []) (fun _ z => nomatch z) (fun b o _ hb _ e n => u.keep b o e n hb (by simp)) (fun b o _ hb _ e n => u.slot b o e n hb (by simp)) (fun b o _ e n => u.free b o e n (by simp)) (fun b o _ e => u.there b o e (by simp)) u.tups u.frzs u.tbls (fun m' hm => by
    obtain ⟨o', es', ep', ho', r'⟩ := hm
    rw [ho] at ho'; cases ho'
    exact ⟨_, es', ep', hL, r'⟩) hok I.bare
theorem Inv.call {g' : Array GenState} {t' : Nat} {d' : Drawn} {ch : List Addr} (I : Inv X pins σ H s) (u : Un (frs X.stack) ch H H' s.heap h') (hok : HOk X.prog X.w H' h') (hg : AllBare g')
    (hch : ∀ b ∈ ch, (b ∈ X.ex ∨ X.s₀.heap.objs.size ≤ b) ∧ b ≠ X.env.locals ∧ (∀ x c, X.env.cells.lookup x = some c → c ≠ b) ∧ ∀ p ∈ X.pn ++ pins, p.1 ≠ b) :
    Inv X pins σ H' { s with heap := h', gens := g', drawn := d', toks := t' } := by
  obtain ⟨m, ⟨o, es, ep, ho, r⟩, _⟩ := id I.loc
  obtain ⟨sl, hL⟩ := u.any ho I.free fun z => (hch _ z).2.1 rfl
  exact I.step (ch := ch) hch (fun b o hL hb hc e n => u.keep b o e n (fun z => (List.mem_cons.mp (I.stkSub b z)).elim hL hb) hc) (fun b o _ _ hc e n => u.any e n hc) (fun b o hc e n => u.free b o e n hc) (fun b o hc e => u.there b o e hc) u.tups u.frzs u.tbls (fun m' hm => by
    obtain ⟨o', es', ep', ho', r'⟩ := hm
    rw [ho] at ho'; cases ho'
    exact ⟨_, es', ep', hL, r'⟩) hok hg
theorem Inv.turned {t' : Nat} {it : Addr} (I : Inv X pins σ H s) (k : ∀ b o, b ≠ it → s.heap.get? b = some o → h'.get? b = some o) (hn : H it = none) (hL : it ≠ X.env.locals)
    (h1 : it ∈ X.ex ∨ X.s₀.heap.objs.size ≤ it) (h2 : ∀ x c, X.env.cells.lookup x = some c → c ≠ it) (h3 : ∀ p ∈ X.pn ++ pins, p.1 ≠ it) : Inv X pins σ H { s with heap := h', toks := t' } := by
  have nit : ∀ b u, H b = some u → b ≠ it := fun b u e z => by rw [z, hn] at e; cases e
  refine I.step (g' := s.gens) (d' := s.drawn) (ch := [it]) (fun b hb => ?_) (fun b o _ _ hc e _ => k b o (fun z => hc (by simp [z])) e) (fun b o _ _ hc e _ => ⟨o.slots, k b o (fun z => hc (by simp [z])) e⟩) (fun _ _ _ _ n => n)
    (fun b o hc e => ⟨o, k b o (fun z => hc (by simp [z])) e⟩) (fun _ _ e => e) (fun _ _ _ e => e) (fun b ps e => ⟨#[], by rw [e]; simp⟩) (fun m hm => ?_) (fun b u e => ?_) I.bare
  · have e : b = it := by simpa using hb
    subst e
    exact ⟨h1, hL, h2, h3⟩
  · obtain ⟨o, es, ep, ho, r⟩ := hm
    exact ⟨o, es, ep, k _ o (Ne.symm hL) ho, r⟩
  · refine (I.hok b u e).stay (fun c v hc q => k c v ?_ q) (fun _ q => q) fun _ _ q => q
    rcases hc with z | z
    · rw [z]; exact nit b u e
    · exact nit c _ z
theorem Inv.tok (I : Inv X pins σ H s) (t : Nat) : Inv X pins σ H { s with toks := t } := I.un (h' := s.heap) (t' := t) Un.refl I.hok
theorem Inv.kept {t' : Nat} (I : Inv X pins σ H s) (k : ∀ b u, s.heap.get? b = some u → h'.get? b = some u) : Inv X pins σ H { s with heap := h', toks := t' } := I.un (Un.kept k) (I.hok.kept k)
theorem Inv.laid {a : Addr} {o : HO} {t' : Nat} (I : Inv X pins σ H s) (k : ∀ b u, s.heap.get? b = some u → h'.get? b = some u) (hp : s.heap.objs.size ≤ a) (new : ObjOk X.prog X.w (upd H a o) h' a o) :
    Inv X pins σ (upd H a o) { s with heap := h', toks := t' } := I.un (Un.laid k hp (I.hok.fresh hp)) (I.hok.laid k hp new)
theorem Inv.write {x e : Addr} {o : HO} {t' : Nat} (I : Inv X pins σ H s) (mu : Mut (H x)) (he : e = x ∨ H e = some (.own x)) (k : ∀ b u, b ≠ e → s.heap.get? b = some u → h'.get? b = some u) (heo : ∃ u, h'.get? e = some u)
    (new : ObjOk X.prog X.w (upd H x o) h' x o) : Inv X pins σ (upd H x o) { s with heap := h', toks := t' } := I.un (Un.write mu he k heo) (I.hok.write mu he k heo new)
theorem Inv.weak {σ' : List (Option V)} (I : Inv X pins σ H s) (hl : σ'.length = σ.length) (w : ∀ (i : Nat) v, σ'[i]? = some (some v) → σ[i]? = some (some v)) : Inv X pins σ' H s :=
  ⟨I.ok, I.os, I.bare, I.base, let ⟨m, hn, hl'⟩ := I.loc; ⟨m, hn, fun i x v e1 e2 e3 => hl' i x v e1 (w i v e2) e3⟩, I.cell, I.free, I.freeC, I.pin, I.hok, hl.trans I.len⟩
theorem Inv.pins_of {pins' : List (Addr × Obj)} (I : Inv X pins σ H s) (h : ∀ p ∈ pins', s.heap.get? p.1 = some p.2 ∧ H p.1 = none ∧ p.1 ≠ X.env.locals ∧ p.1 ∉ X.fs ∧ ∀ v, p.2.data ≠ .cell v) : Inv X pins' σ H s :=
  ⟨I.ok, I.os, I.bare, I.base, I.loc, I.cell, I.free, I.freeC, fun p hp => (List.mem_append.mp hp).elim (fun z => I.pin p (List.mem_append_left _ z)) (h p), I.hok, I.len⟩

theorem nodup_ix {N : List Str} (hN : N.Nodup) {i j : Nat} {x : Str} (a : N[i]? = some x) (b : N[j]? = some x) : i = j := by
  obtain ⟨h1, e1⟩ := List.getElem?_eq_some_iff.mp a
  obtain ⟨h2, e2⟩ := List.getElem?_eq_some_iff.mp b
  exact (List.getElem_inj hN).mp (e1.trans e2.symm)

theorem store_ok2 {M : Model} {A : Around} {E : Value → Shared → Prop} {i : Nat} {x : Str} {v : V} {u : Value} {Q : Unit → Shared → Prop} (I : Inv X pins σ H s) (hN : X.N.Nodup) (hi : X.N[i]? = some x) (hx : Loc X.env.scope x) (r : RelV v u)
    (h : ∀ s', Inv X pins (σ.set i (some v)) H s' → (∃ a, Heap.SameBut a s.heap s'.heap ∧ (a = X.env.locals ∨ X.env.cells.lookup x = some a)) → Q () s') (hf : X.fn x = true ∨ X.env.scope.names.lookup x = some .local := by first | exact .inl rfl | exact .inr rfl | assumption) : wpAny M A (storeName X.env x u) Q E s := by
  obtain ⟨m, hn, hl⟩ := id I.loc
  have hcls : (X.env.scope.kind == .class || (X.env.scope.kind == .module && X.env.locals != X.env.globals)) = false := by rw [I.ok.kind]; rfl
  have hiσ : i < σ.length := by rw [I.len]; exact (List.getElem?_eq_some_iff.mp hi).1
  have cne := I.cne
  have tracked : ∀ {a : Addr} {h' : Heap}, (∃ o, s.heap.get? a = some o ∧ H a = none) → Heap.SameBut a s.heap h' → HOk X.prog X.w H h' := fun {a h'} ha hs b ob e => by
    obtain ⟨_, _, hfree⟩ := ha
    refine (I.hok b ob e).stay (fun c w' hc q => (hs.2 c ?_).trans q) (fun _ q => q) fun _ _ q => q
    rintro rfl
    rcases hc with rfl | hc
    · rw [hfree] at e; cases e
    · rw [hfree] at hc; cases hc
  rcases hx with hk | hk
  · refine wpAny_storeName_local hk hn (fun h' hn' hs => ?_) hcls
    obtain ⟨oL, _, _, hoL, _⟩ := id hn
    refine h _ ⟨I.ok, I.os, I.bare, ⟨fun b o e n hb hx => ?_, fun b o e n hb hx => ?_, I.base.free, fun b o e hx => ?_, I.base.tups, I.base.frzs, I.base.tbls⟩, ⟨_, hn', fun j y v' e1 e2 e3 => ?_⟩, fun y c e => ?_, I.free, I.freeC, fun p hp => ?_, tracked ⟨oL, hoL, I.free⟩ hs, by simpa using I.len⟩ ⟨_, hs, .inl rfl⟩
    · exact (hs.2 b (Nat.ne_of_lt (Nat.lt_of_lt_of_le (Heap.lt_size e) I.ok.above))).trans (I.base.keep b o e n hb hx)
    · obtain ⟨sl, e1⟩ := I.base.slot b o e n hb hx
      exact ⟨sl, (hs.2 b (Nat.ne_of_lt (Nat.lt_of_lt_of_le (Heap.lt_size e) I.ok.above))).trans e1⟩
    · obtain ⟨o', e1⟩ := I.base.there b o e hx
      exact ⟨o', (hs.2 b (Nat.ne_of_lt (Nat.lt_of_lt_of_le (Heap.lt_size e) I.ok.above))).trans e1⟩
    · by_cases hj : j = i
      · subst hj
        rw [hi] at e1; cases e1
        rw [List.getElem?_set_self hiσ] at e2
        cases e2
        exact ⟨u, r, .inl ⟨hk, by simp⟩⟩
      · rw [List.getElem?_set_ne (Ne.symm hj)] at e2
        obtain ⟨u', r', q⟩ := hl j y v' e1 e2 e3
        refine ⟨u', r', ?_⟩
        rcases q with ⟨k, e⟩ | ⟨k, c, e, z⟩
        · refine .inl ⟨k, ?_⟩
          have : y ≠ x := fun e => hj (nodup_ix hN e1 (e ▸ hi))
          simp [this, e]
        · exact .inr ⟨k, c, e, z.sameBut hs (cne y c e)⟩
    · obtain ⟨w', z⟩ := I.cell y c e
      exact ⟨w', z.sameBut hs (cne y c e)⟩
    · obtain ⟨e, n, ne, nf, d⟩ := I.pin p hp
      exact ⟨(hs.2 p.1 ne).trans e, n, ne, nf, d⟩
  · have hfn : X.fn x = true := by
      rcases hf with z | z
      · exact z
      · rw [z] at hk; cases hk
    obtain ⟨c, hc⟩ := I.ok.has x (.inl hk)
    obtain ⟨w', z⟩ := I.cell x c hc
    refine wpAny_storeName_cell I.ok.kind hk hc z (fun h' hc' hs => ?_)
    obtain ⟨oc, hoc, hocd⟩ := id z
    refine h { s with heap := h' } ⟨I.ok, I.os, I.bare, ⟨fun b o e n hb hx => ?_, fun b o e n hb hx => ?_, I.base.free, fun b o e hx => ?_, I.base.tups, I.base.frzs, I.base.tbls⟩, ⟨m, hn.sameBut hs (Ne.symm (cne x c hc)), fun j y v' e1 e2 e3 => ?_⟩, fun y c' e => ?_, I.free, I.freeC, fun p hp => ?_, tracked ⟨oc, hoc, I.freeC x c hc⟩ hs, by simpa using I.len⟩ ⟨c, hs, .inr hc⟩
    · exact (hs.2 b (Nat.ne_of_lt (Nat.lt_of_lt_of_le (Heap.lt_size e) (I.ok.cab x c hfn hc)))).trans (I.base.keep b o e n hb hx)
    · obtain ⟨sl, e1⟩ := I.base.slot b o e n hb hx
      exact ⟨sl, (hs.2 b (Nat.ne_of_lt (Nat.lt_of_lt_of_le (Heap.lt_size e) (I.ok.cab x c hfn hc)))).trans e1⟩
    · obtain ⟨o', e1⟩ := I.base.there b o e hx
      exact ⟨o', (hs.2 b (Nat.ne_of_lt (Nat.lt_of_lt_of_le (Heap.lt_size e) (I.ok.cab x c hfn hc)))).trans e1⟩
    · by_cases hj : j = i
      · subst hj
        rw [hi] at e1; cases e1
        rw [List.getElem?_set_self hiσ] at e2
        cases e2
        exact ⟨u, r, .inr ⟨.inl hk, c, hc, hc'⟩⟩
      · rw [List.getElem?_set_ne (Ne.symm hj)] at e2
        obtain ⟨u', r', q⟩ := hl j y v' e1 e2 e3
        refine ⟨u', r', ?_⟩
        rcases q with q | ⟨k, c', e, z'⟩
        · exact .inl q
        · refine .inr ⟨k, c', e, z'.sameBut hs ?_⟩
          rintro rfl
          exact hj (nodup_ix hN e1 (I.ok.inj _ _ _ e hc ▸ hi))
    · by_cases hcc : c' = c
      · subst hcc; exact ⟨_, hc'⟩
      · obtain ⟨w2, z2⟩ := I.cell y c' e
        exact ⟨w2, z2.sameBut hs hcc⟩
    · obtain ⟨e, n, ne, nf, d⟩ := I.pin p hp
      refine ⟨(hs.2 p.1 ?_).trans e, n, ne, nf, d⟩
      intro q
      rw [q, hoc] at e
      have q' : oc = p.2 := Option.some.inj e
      exact d w' (by rw [← q']; exact hocd)
theorem store_ok {M : Model} {A : Around} {E : Value → Shared → Prop} {i : Nat} {x : Str} {v : V} {u : Value} {Q : Unit → Shared → Prop} (I : Inv X pins σ H s) (hN : X.N.Nodup) (hi : X.N[i]? = some x) (hx : Loc X.env.scope x) (r : RelV v u)
    (h : ∀ s', Inv X pins (σ.set i (some v)) H s' → Q () s') (hf : X.fn x = true ∨ X.env.scope.names.lookup x = some .local := by first | exact .inl rfl | exact .inr rfl | assumption) : wpAny M A (storeName X.env x u) Q E s :=
  store_ok2 I hN hi hx r (fun s' I' _ => h s' I') hf
theorem Inv.call' {s' : Shared} {ch : List Addr} (I : Inv X pins σ H s) (ho : s'.os = s.os) (u : Un (frs X.stack) ch H H' s.heap s'.heap) (hok : HOk X.prog X.w H' s'.heap) (hg : AllBare s'.gens)
    (hch : ∀ b ∈ ch, (b ∈ X.ex ∨ X.s₀.heap.objs.size ≤ b) ∧ b ≠ X.env.locals ∧ (∀ x c, X.env.cells.lookup x = some c → c ≠ b) ∧ ∀ p ∈ X.pn ++ pins, p.1 ≠ b) : Inv X pins σ H' s' := by
  obtain ⟨h', g', d', t', o'⟩ := s'
  have e : o' = s.os := ho
  subst e
  exact I.call (g' := g') (t' := t') (d' := d') u hok hg hch
end
abbrev XK := Value → Option Addr → Hp → Prop
abbrev St := List (Option V)
abbrev VK := V → Hp → Prop
abbrev TE := St → Hp → VK → Prop
abbrev TT := St → Hp → (Bool → Hp → Prop) → Prop
abbrev TA := St → Hp → (List V → Hp → Prop) → Prop
structure Ends where
  nx : St → Hp → Prop
  rt : VK
  bk : St → Hp → Prop := fun _ _ => False
  ct : St → Hp → Prop := fun _ _ => False
abbrev TS := Ends → St → Hp → Prop

def EP (X : Cx) (pins : List (Addr × Obj)) (σ : St) (Q : VK) (u : Value) (s' : Shared) : Prop := ∃ v H', Inv X pins σ H' s' ∧ RelV v u ∧ Q v H'
def TP (X : Cx) (pins : List (Addr × Obj)) (σ : St) (Q : Bool → Hp → Prop) (b : Bool) (s' : Shared) : Prop := ∃ H', Inv X pins σ H' s' ∧ Q b H'
def AP (X : Cx) (pins : List (Addr × Obj)) (σ : St) (Q : List V → Hp → Prop) (us : List Value) (s' : Shared) : Prop := ∃ vs H', Inv X pins σ H' s' ∧ Vals vs us ∧ Q vs H'
def SP (X : Cx) (pins : List (Addr × Obj)) (D : Ends) (f : Flow) (s' : Shared) : Prop :=
  match f with
  | .next => ∃ σ' H', Inv X pins σ' H' s' ∧ D.nx σ' H'
  | .brk => ∃ σ' H', Inv X pins σ' H' s' ∧ D.bk σ' H'
  | .cont => ∃ σ' H', Inv X pins σ' H' s' ∧ D.ct σ' H'
  | .ret u => ∃ v σ' H', Inv X pins σ' H' s' ∧ RelV v u ∧ D.rt v H'

def PE (X : Cx) (e : Expr) (t : TE) : Prop :=
  ∀ (pins : List (Addr × Obj)) (s : Shared) (σ : St) (H : Hp) (Q : VK), Inv X pins σ H s → t σ H Q → wpAny (model X.prog X.w) X.A (eval e X.env) (EP X pins σ Q) X.xe s
def PT (X : Cx) (e : Expr) (t : TT) : Prop :=
  ∀ (pins : List (Addr × Obj)) (s : Shared) (σ : St) (H : Hp) (Q : Bool → Hp → Prop), Inv X pins σ H s → t σ H Q → wpAny (model X.prog X.w) X.A (isTrue e X.env (eval e X.env)) (TP X pins σ Q) X.xe s
def PW (X : Cx) (e : Expr) (t : TT) : Prop :=
  ∀ (whole : Sem Value) (pins : List (Addr × Obj)) (s : Shared) (σ : St) (H : Hp) (Q : Bool → Hp → Prop), Inv X pins σ H s → t σ H Q → wpAny (model X.prog X.w) X.A (isTrue e X.env whole) (TP X pins σ Q) X.xe s
theorem PW.pt {X : Cx} {e : Expr} {t : TT} (h : PW X e t) : PT X e t := h _
def PA (X : Cx) (es : List Expr) (t : TA) : Prop :=
  ∀ (pos : Pos) (pins : List (Addr × Obj)) (s : Shared) (σ : St) (H : Hp) (Q : List V → Hp → Prop), Inv X pins σ H s → t σ H Q → wpAny (model X.prog X.w) X.A (spliced (backTo pos (starEach es X.env))) (AP X pins σ Q) X.xe s
def PS (X : Cx) (st : Stmt) (t : TS) : Prop :=
  ∀ (pins : List (Addr × Obj)) (s : Shared) (σ : St) (H : Hp) (D : Ends), Inv X pins σ H s → t D σ H → wpAny (model X.prog X.w) X.A (exec st X.env) (SP X pins D) X.xe s
def PSs (X : Cx) (st : List Stmt) (t : TS) : Prop :=
  ∀ (pins : List (Addr × Obj)) (s : Shared) (σ : St) (H : Hp) (D : Ends), Inv X pins σ H s → t D σ H → wpAny (model X.prog X.w) X.A (execs st X.env) (SP X pins D) X.xe s
theorem thn {α : Type} {t : Sem α} {Q Q' : α → Shared → Prop} {M : Model} {A : Around} {E : Value → Shared → Prop} {s : Shared} (h : wpAny M A t Q E s) (hQ : ∀ a s, Q a s → Q' a s) : wpAny M A t Q' E s := wpAny_mono h hQ fun _ _ x => x
end L2
namespace L2
open PySem PySem.Spec PyProof.Rows
section
variable {X : Cx}
def tVar (i : Nat) : TE := fun σ H Q => ∃ v, σ[i]? = some (some v) ∧ Q v H
def tC (v : V) : TE := fun _ H Q => Q v H
theorem pe_var {i : Nat} {x : Str} {pos : Pos} (hN : X.N[i]? = some x) (hv : Vis X.env.scope x) (hd : (x == ("__debug__" : Str)) = false := by decide) (hcd : (x == ("__classdict__" : Str)) = false := by decide) : PE X (.Name x pos) (tVar i) := by
  intro pins s σ H Q I h
  obtain ⟨v, e, h⟩ := h
  obtain ⟨m, hn, hl⟩ := I.loc
  obtain ⟨u, r, l⟩ := hl i x v hN e hv
  have fin : EP X pins σ Q u s := ⟨v, H, I, r, h⟩
  rcases l with ⟨hk, hm⟩ | ⟨hk, c, hc, hcell⟩
  · exact wpAny_Name (wpAny_loadName_local I.ok.kind hk hn hm fin) hd
  · rcases hk with hk | hk
    · exact wpAny_Name (wpAny_loadName_cell I.ok.kind hk hc hcell fin) hd
    · exact wpAny_Name (wpAny_loadName_free I.ok.kind hk hc hcell fin hcd) hd
theorem pe_int {i j pos} : PE X (.Constant (.int i) j pos) (tC (.int i)) := fun _ _ _ H _ I h => wpAny_Constant_int ⟨.int i, H, I.tok _, ⟨_, rfl⟩, h⟩
theorem pe_bl {b j pos} : PE X (.Constant (.bool b) j pos) (tC (.bl b)) := fun _ _ _ H _ I h => Constant_bool ⟨.bl b, H, I, rfl, h⟩
theorem pe_str {x j pos} : PE X (.Constant (.str x) j pos) (tC (.str x)) := fun _ _ _ H _ I h => Calls.Constant_str ⟨.str x, H, I.tok _, ⟨_, rfl⟩, h⟩

def Gl (X : Cx) (x : Str) : Prop := X.env.kindOf x = some .globalImplicit
theorem ld_glob {E : Value → Shared → Prop} {pins : List (Addr × Obj)} {s : Shared} {σ : St} {H : Hp} {x : Str} {u : Value} {pos : Pos} {Q : Value → Shared → Prop} (I : Inv X pins σ H s) (hg : Gl X x) (hm : X.mg x = some u) (h : Q u s)
    (hd : (x == ("__debug__" : Str)) = false := by decide) : wpAny (model X.prog X.w) X.A (eval (.Name x pos) X.env) Q E s :=
  Calls.Name_function_global I.ok.kind hg (Calls.loadGlobal_global (by rw [I.ok.glob]; exact I.mod.glob.keeps I.bk) hm h) hd
theorem ld_blt {E : Value → Shared → Prop} {pins : List (Addr × Obj)} {s : Shared} {σ : St} {H : Hp} {x : Str} {u : Value} {pos : Pos} {Q : Value → Shared → Prop} (I : Inv X pins σ H s) (hg : Gl X x) (hm : X.mg x = none) (hv : bootBuiltins x = some u) (h : Q u s)
    (hn : x ≠ "__name__" := by decide) (hd : (x == ("__debug__" : Str)) = false := by decide) : wpAny (model X.prog X.w) X.A (eval (.Name x pos) X.env) Q E s := by
  obtain ⟨mb, h1, h2⟩ := I.mod.blt
  exact Calls.Name_function_global I.ok.kind hg (Calls.loadGlobal_builtin (by rw [I.ok.glob]; exact I.mod.glob.keeps I.bk) hm (by rw [I.ok.blt]; exact h1.keeps I.bk) ((h2 x hn).trans hv) h) hd
theorem pe_bltn {x : Str} {v : V} {u : Value} {pos : Pos} (hg : Gl X x) (hm : X.mg x = none) (hv : bootBuiltins x = some u) (r : RelV v u) (hn : x ≠ "__name__" := by decide) (hd : (x == ("__debug__" : Str)) = false := by decide) : PE X (.Name x pos) (tC v) :=
  fun _ _ _ H _ I h => ld_blt I hg hm hv ⟨v, H, I, r, h⟩ hn hd

variable {a b : Expr} {ta tb : TE} {pos : Pos}
def tB (t : TE) : TT := fun σ H Q => t σ H fun x H1 => ∃ c, x = .bl c ∧ Q c H1
theorem pt_val {e : Expr} {t : TE} (h : PE X e t) (he : ∀ whole, isTrue e X.env whole = (do let v ← whole; standAt e.pos; holding [v] (truthy v)) := by intro _; rfl) : PT X e (tB t) := by
  intro pins s σ H Q I hw
  refine isTrue_plain (thn (h pins s σ H _ I hw) fun v s1 ⟨x, H1, I1, r1, q1⟩ => ?_) (he _)
  obtain ⟨d, rfl, q⟩ := q1
  cases r1
  exact wpAny_truthy_bool ⟨H1, I1, q⟩

variable {tA tB' : TT} {rest : List Expr}
def tAnd (t u : TT) : TT := fun σ H Q => t σ H fun c H1 => if c = true then u σ H1 Q else Q false H1
def tOr (t u : TT) : TT := fun σ H Q => t σ H fun c H1 => if c = true then Q true H1 else u σ H1 Q
def tNot (t : TT) : TT := fun σ H Q => t σ H fun c H1 => Q (!c) H1
theorem pw_and1 (ha : PT X a tA) : PW X (.BoolOp .And [a] pos) tA := by
  intro wh pins s σ H Q I h
  refine isTrue_and (thn (ha pins s σ H Q I h) fun c s1 e => ?_)
  cases c with
  | true => exact isTrue_and_nil e
  | false => exact e
theorem pw_or1 (ha : PT X a tA) : PW X (.BoolOp .Or [a] pos) tA := by
  intro wh pins s σ H Q I h
  refine isTrue_or (thn (ha pins s σ H Q I h) fun c s1 e => ?_)
  cases c with
  | false => exact isTrue_or_nil e
  | true => exact e
theorem pw_and (ha : PT X a tA) (hb : PW X (.BoolOp .And (b :: rest) pos) tB') : PW X (.BoolOp .And (a :: b :: rest) pos) (tAnd tA tB') := by
  intro wh pins s σ H Q I h
  refine isTrue_and (thn (ha pins s σ H _ I h) fun c s1 ⟨H1, I1, q1⟩ => ?_)
  cases c with
  | true => exact hb wh pins s1 σ H1 Q I1 q1
  | false => exact ⟨H1, I1, q1⟩
theorem pw_or (ha : PT X a tA) (hb : PW X (.BoolOp .Or (b :: rest) pos) tB') : PW X (.BoolOp .Or (a :: b :: rest) pos) (tOr tA tB') := by
  intro wh pins s σ H Q I h
  refine isTrue_or (thn (ha pins s σ H _ I h) fun c s1 ⟨H1, I1, q1⟩ => ?_)
  cases c with
  | true => exact ⟨H1, I1, q1⟩
  | false => exact hb wh pins s1 σ H1 Q I1 q1
theorem pt_not (ha : PT X a tA) : PT X (.UnaryOp .Not a pos) (tNot tA) := by
  intro pins s σ H Q I h
  exact isTrue_not (ha pins s σ H (fun c H1 => Q (!c) H1) I h)
def tAndV (ta tb : TE) : TE := fun σ H Q => ta σ H fun x H1 => ∃ c, x = .bl c ∧ if c = true then tb σ H1 Q else Q (.bl false) H1
def tNotV (ta : TE) : TE := fun σ H Q => ta σ H fun x H1 => ∃ c, x = .bl c ∧ Q (.bl (!c)) H1
theorem pe_one {op} {t : TE} (h : PE X a t) : PE X (.BoolOp op [a] pos) t := fun pins s σ H Q I hw => BoolOp_one (h pins s σ H Q I hw)
theorem pe_and (ha : PE X a ta) (hb : PE X (.BoolOp .And (b :: rest) pos) tb) : PE X (.BoolOp .And (a :: b :: rest) pos) (tAndV ta tb) := by
  intro pins s σ H Q I h
  refine BoolOp_and (thn (ha pins s σ H _ I h) fun v s1 ⟨x, H1, I1, r1, q1⟩ => ?_)
  obtain ⟨c, rfl, q1⟩ := q1
  cases r1
  refine wpAny_truthy_bool ?_
  cases c with
  | true => exact hb pins s1 σ H1 Q I1 q1
  | false => exact ⟨.bl false, H1, I1, rfl, q1⟩
theorem pe_not (ha : PE X a ta) : PE X (.UnaryOp .Not a pos) (tNotV ta) := by
  intro pins s σ H Q I h
  refine UnaryOp_ (thn (ha pins s σ H _ I h) fun v s1 ⟨x, H1, I1, r1, q1⟩ => ?_)
  obtain ⟨c, rfl, q1⟩ := q1
  cases r1
  exact not_of (wpAny_truthy_bool ⟨.bl (!c), H1, I1, rfl, q1⟩)
end
end L2
namespace L2
open PySem PySem.Spec PyProof.Rows
def SqL (K : PySem.W.Frag) (H : Hp) (a : Addr) (xs : List V) : Prop :=
  Rd H a (.lst xs) ∨
    ∃ (o : Obj) (its : Array Value) (n : Nat), K.lookup a = some o ∧ o.cls = .type "list" ∧ o.dict = none ∧ o.data = .seq its n ∧ its.size ≤ sizeLine ∧ Vals xs its.toList
def SqT (K : PySem.W.Frag) (H : Hp) (a : Addr) (xs : List V) : Prop :=
  Rd H a (.tup xs) ∨
    ∃ (o : Obj) (its : Array Value) (n : Nat), K.lookup a = some o ∧ o.cls = .type "tuple" ∧ o.data = .seq its n ∧ its.size ≤ sizeLine ∧ Vals xs its.toList
def absV : Value → Option V
  | .none => some .non
  | .bool b => some (.bl b)
  | .int i _ => some (.int i)
  | .str x _ => some (.str x)
  | .bytes b _ => some (.byt b)
  | .float b _ => some (.flt b)
  | .ref a => some (.ref a)
  | .type n => some (.ty n)
  | _ => none
theorem RelV.abs {x : V} {u : Value} (r : RelV x u) : absV u = some x := by
  cases x with
  | non => cases r; rfl
  | bl _ => cases r; rfl
  | int _ => obtain ⟨t, rfl⟩ := r; rfl
  | str _ => obtain ⟨t, rfl⟩ := r; rfl
  | byt _ => obtain ⟨t, rfl⟩ := r; rfl
  | flt _ => obtain ⟨t, rfl⟩ := r; rfl
  | ref _ => cases r; rfl
  | ty _ => cases r; rfl
theorem RelV.inj {x y : V} {u : Value} (r : RelV x u) (q : RelV y u) : x = y := Option.some.inj (r.abs.symm.trans q.abs)
theorem Vals.inj : ∀ {xs ys : List V} {us : List Value}, Vals xs us → Vals ys us → xs = ys
  | _, _, _, .nil, .nil => rfl
  | _, _, _, .cons r t, .cons r' t' => by rw [r.inj r', Vals.inj t t']
section
variable {X : Cx} {pins : List (Addr × Obj)} {σ : St} {H : Hp} {s : Shared} {a : Addr} {xs ys : List V}
theorem SqL.of {K : PySem.W.Frag} (h : H a = some (.lst xs)) : SqL K H a xs := .inl (.inl h)
theorem Inv.list (I : Inv X pins σ H s) (h : SqL X.K H a xs) : ∃ its : List Value, Vals xs its ∧ PlainL s.heap a its.toArray ∧ xs.length ≤ sizeLine := by
  rcases h with h | ⟨o, its, n, hk, hc, hd, hs, hz, r⟩
  · obtain ⟨z, its, n, r, e⟩ := h.ok I.hok
    exact ⟨its, r, ⟨_, n, e, rfl, rfl, rfl⟩, z⟩
  · refine ⟨its.toList, r, ⟨o, n, I.kIn a o hk, hc, hd, by simpa using hs⟩, ?_⟩
    have e := r.length
    simp only [Array.length_toList] at e
    omega
theorem Inv.tuple (I : Inv X pins σ H s) (h : SqT X.K H a xs) : ∃ its : List Value, Vals xs its ∧ IsTup s.heap a its.toArray ∧ xs.length ≤ sizeLine := by
  rcases h with h | ⟨o, its, n, hk, hc, hs, hz, r⟩
  · obtain ⟨z, its, r, p⟩ := h.ok I.hok
    exact ⟨its, r, p, z⟩
  · refine ⟨its.toList, r, ⟨o, I.kIn a o hk, hc, n, by simpa using hs⟩, ?_⟩
    have e := r.length
    simp only [Array.length_toList] at e
    omega
theorem Inv.list_inj (I : Inv X pins σ H s) (h : SqL X.K H a xs) (h' : SqL X.K H a ys) : xs = ys := by
  obtain ⟨its, r, ⟨o, n, e, _, _, d⟩, _⟩ := I.list h
  obtain ⟨its', r', ⟨o', n', e', _, _, d'⟩, _⟩ := I.list h'
  rw [e] at e'; cases e'
  rw [d] at d'
  injection d' with d1 _
  have : its = its' := by simpa using congrArg Array.toList d1
  subst this
  exact r.inj r'
theorem Inv.tuple_inj (I : Inv X pins σ H s) (h : SqT X.K H a xs) (h' : SqT X.K H a ys) : xs = ys := by
  obtain ⟨its, r, ⟨o, e, _, n, d⟩, _⟩ := I.tuple h
  obtain ⟨its', r', ⟨o', e', _, n', d'⟩, _⟩ := I.tuple h'
  rw [e] at e'; cases e'
  rw [d] at d'
  injection d' with d1 _
  have : its = its' := by simpa using congrArg Array.toList d1
  subst this
  exact r.inj r'
end
abbrev Cx.wish (X : Cx) (E : Value → Shared → Prop) : Cx := { X with xe := E }
abbrev Cx.nox (X : Cx) : Cx := X.wish fun _ _ => False
theorem Cx.Ok.wish {X : Cx} (ok : X.Ok) (E : Value → Shared → Prop) : (X.wish E).Ok :=
  ⟨ok.mod, ok.kind, ok.glob, ok.blt, ok.above, ok.inj, ok.has, ok.cab, ok.hd, ok.frames, ok.stk, ok.exf, ok.bs, ok.bsz, ok.noex, ok.exfs, ok.funs, ok.frf⟩
theorem Cx.Ok.unwish {X : Cx} {E : Value → Shared → Prop} (ok : (X.wish E).Ok) : X.Ok :=
  ⟨ok.mod, ok.kind, ok.glob, ok.blt, ok.above, ok.inj, ok.has, ok.cab, ok.hd, ok.frames, ok.stk, ok.exf, ok.bs, ok.bsz, ok.noex, ok.exfs, ok.funs, ok.frf⟩
section
variable {X : Cx} {pins : List (Addr × Obj)} {σ : St} {H : Hp} {s : Shared} {E : Value → Shared → Prop}
theorem Inv.wish (I : Inv X pins σ H s) (E : Value → Shared → Prop) : Inv (X.wish E) pins σ H s := ⟨I.ok.wish E, I.os, I.bare, I.base, I.loc, I.cell, I.free, I.freeC, I.pin, I.hok, I.len⟩
theorem Inv.unwish (I : Inv (X.wish E) pins σ H s) : Inv X pins σ H s := ⟨I.ok.unwish, I.os, I.bare, I.base, I.loc, I.cell, I.free, I.freeC, I.pin, I.hok, I.len⟩
theorem SP.unwish {D : Ends} {f : Flow} {s' : Shared} (h : SP (X.wish E) pins D f s') : SP X pins D f s' := by
  cases f with
  | next => obtain ⟨σ', H', I, q⟩ := h; exact ⟨σ', H', I.unwish, q⟩
  | brk => obtain ⟨σ', H', I, q⟩ := h; exact ⟨σ', H', I.unwish, q⟩
  | cont => obtain ⟨σ', H', I, q⟩ := h; exact ⟨σ', H', I.unwish, q⟩
  | ret u => obtain ⟨v, σ', H', I, r, q⟩ := h; exact ⟨v, σ', H', I.unwish, r, q⟩
theorem PSs.nox {st : List Stmt} {t : TS} (h : PSs X.nox st t) : PSs X st t := fun pins s σ H D I hw =>
  wpAny_mono (h pins s σ H D (I.wish _) hw) (fun _ _ q => q.unwish) fun _ _ z => False.elim z
end
section
variable {X : Cx} {st : Stmt} {rest : List Stmt} {t u : TS} {e : Expr} {te : TE} {pos : Pos}
def tNext : TS := fun D σ H => D.nx σ H
def tSeq (t u : TS) : TS := fun D σ H => t { D with nx := u D } σ H
theorem pss_nil : PSs X [] tNext := fun _ _ σ H _ I h => wpAny_execs_nil ⟨σ, H, I, h⟩
theorem pss_cons (h1 : PS X st t) (h2 : PSs X rest u) : PSs X (st :: rest) (tSeq t u) := by
  intro pins s σ H D I h
  refine wpAny_execs_cons (thn (h1 pins s σ H { D with nx := u D } I h) fun f s1 q => ?_)
  cases f with
  | next =>
    obtain ⟨σ', H', I', q⟩ := q
    exact h2 pins s1 σ' H' D I' q
  | ret v => exact q
  | brk => exact q
  | cont => exact q
theorem pss_one (h1 : PS X st t) : PSs X [st] t := by
  intro pins s σ H D I h
  refine wpAny_execs_cons (thn (h1 pins s σ H D I h) fun f s1 q => ?_)
  cases f with
  | next => exact wpAny_execs_nil q
  | ret v => exact q
  | brk => exact q
  | cont => exact q
def tRet (te : TE) : TS := fun D σ H => te σ H D.rt
theorem ps_ret (he : PE X e te) : PS X (.Return (some e) pos) (tRet te) := by
  intro pins s σ H D I h
  exact wpAny_Return_some (thn (he pins s σ H _ I h) fun v s1 ⟨x, H1, I1, r1, q1⟩ => ⟨x, σ, H1, I1, r1, q1⟩)
def tIfS (c : TT) (t u : TS) : TS := fun D σ H => c σ H fun b H1 => if b = true then t D σ H1 else u D σ H1
theorem ps_if {c : Expr} {a b : List Stmt} {tc : TT} (hc : PT X c tc) (ha : PSs X a t) (hb : PSs X b u) : PS X (.If c a b pos) (tIfS tc t u) := by
  intro pins s σ H D I h
  refine wpAny_If (thn (hc pins s σ H _ I h) fun d s1 ⟨H1, I1, q1⟩ => ?_)
  cases d with
  | true => exact ha pins s1 σ H1 D I1 q1
  | false => exact hb pins s1 σ H1 D I1 q1
end
abbrev TG := V → St → Hp → (St → Hp → Prop) → Prop
abbrev TGs := List V → St → Hp → (St → Hp → Prop) → Prop
def PG (X : Cx) (target : Expr) (t : TG) : Prop :=
  ∀ (pins : List (Addr × Obj)) (s : Shared) (σ : St) (H : Hp) (v : V) (u : Value) (Q : St → Hp → Prop), Inv X pins σ H s → RelV v u → t v σ H Q →
    wpAny (model X.prog X.w) X.A (assign target X.env u) (fun _ s' => ∃ σ' H', Inv X pins σ' H' s' ∧ Q σ' H') X.xe s
def PGs (X : Cx) (ts : List Expr) (t : TGs) : Prop :=
  ∀ (pins : List (Addr × Obj)) (s : Shared) (σ : St) (H : Hp) (vs : List V) (us : List Value) (Q : St → Hp → Prop), Inv X pins σ H s → Vals vs us → t vs σ H Q →
    wpAny (model X.prog X.w) X.A (assignInOrder ((assignEach ts X.env).map (·.2)) us) (fun _ s' => ∃ σ' H', Inv X pins σ' H' s' ∧ Q σ' H') X.xe s
abbrev TSet := V → V → V → Hp → (Hp → Prop) → Prop
def PSet (X : Cx) (t : TSet) : Prop :=
  ∀ (pins : List (Addr × Obj)) (s : Shared) (σ : St) (H : Hp) (o i v : V) (ov iv u : Value) (Q : Hp → Prop), Inv X pins σ H s → RelV o ov → RelV i iv → RelV v u → t o i v H Q →
    wpAny (model X.prog X.w) X.A (setItem ov iv u) (fun _ s' => ∃ H', Inv X pins σ H' s' ∧ Q H') X.xe s
section
variable {X : Cx} {pos : Pos}
def gName (i : Nat) : TG := fun v σ H Q => Q (σ.set i (some v)) H
theorem pg_name {i : Nat} {x : Str} (hN : X.N.Nodup) (hi : X.N[i]? = some x) (hx : Loc X.env.scope x) (hf : X.fn x = true ∨ X.env.scope.names.lookup x = some .local := by first | exact .inl rfl | exact .inr rfl | assumption) : PG X (.Name x pos) (gName i) := by
  intro pins s σ H v u Q I r h
  exact wpAny_assign_Name (store_ok I hN hi hx r (fun s' I' => ⟨_, H, I', h⟩) hf)
def gNil : TGs := fun vs σ H Q => vs = [] ∧ Q σ H
def gCons (t : TG) (u : TGs) : TGs := fun vs σ H Q => ∃ v r, vs = v :: r ∧ t v σ H fun σ' H' => u r σ' H' Q
theorem pgs_nil : PGs X [] gNil := by
  intro pins s σ H vs us Q I r h
  obtain ⟨e, h⟩ := h
  subst e
  cases r
  exact assignInOrder_nil ⟨σ, H, I, h⟩
theorem pgs_cons {e : Expr} {es : List Expr} {t : TG} {u : TGs} (h1 : PG X e t) (h2 : PGs X es u)
    (hs : (assignEach (e :: es) X.env).map (·.2) = assign e X.env :: (assignEach es X.env).map (·.2) := by rfl) : PGs X (e :: es) (gCons t u) := by
  intro pins s σ H vs us Q I r h
  obtain ⟨v, vr, e1, h⟩ := h
  subst e1
  cases r with
  | cons r rr =>
    rw [hs]
    refine assignInOrder_cons (thn (h1 pins s σ H _ _ _ I r h) fun _ s1 ⟨σ1, H1, I1, q1⟩ => ?_)
    exact h2 pins s1 σ1 H1 _ _ Q I1 rr q1
def gTup (K : PySem.W.Frag) (n : Nat) (t : TGs) : TG := fun v σ H Q => ∃ a xs, v = .ref a ∧ SqT K H a xs ∧ xs.length = n ∧ t xs σ H Q
theorem pg_tup {es : List Expr} {k : Nat} {t : TGs} {n : Nat} (hc : X.calm = true) (h : PGs X es t)
    (hn : (assignEach es X.env).length = n := by rfl) (hst : (assignEach es X.env).findIdx? (·.1) = none := by rfl) : PG X (.Tuple es k pos) (gTup X.K n t) := by
  intro pins s σ H v u Q I r hw
  obtain ⟨a, xs, e1, hq, hl, hw⟩ := hw
  subst e1
  cases r
  obtain ⟨its, rv, ht, hz⟩ := I.tuple hq
  refine assign_Tuple_tuple (I.ok.hd hc) ht (by simp [hn, ← hl, rv.length]) hst fun h' hx => ?_
  have I1 : Inv X pins σ H { s with heap := h' } := I.kept (t' := s.toks) fun b o e => hx b o (Nat.ne_of_lt (Heap.lt_size e)) e
  exact h pins _ σ H xs _ Q I1 (by simpa using rv) hw
def gSub (to ti : TE) (t : TSet) : TG := fun v σ H Q => to σ H fun o H1 => ti σ H1 fun i H2 => t o i v H2 fun H3 => Q σ H3
theorem pg_sub {o i : Expr} {to ti : TE} {t : TSet} (ho : PE X o to) (hi : PE X i ti) (hs : PSet X t)
    (ha : ∀ v, assign (.Subscript o i pos) X.env v = (do
      let ov ← holding [v] (eval o X.env)
      let iv ← holding [v, ov] (eval i X.env)
      standAt pos
      holding [v, ov, iv] (setItem ov iv v)
      release [v, ov, iv] []) := by intro _; rfl) : PG X (.Subscript o i pos) (gSub to ti t) := by
  intro pins s σ H v u Q I r h
  rw [ha]
  refine wpAny_bind (wpAny_holding (thn (ho pins s σ H _ I h) fun ov s1 ⟨x, H1, I1, r1, q1⟩ => ?_))
  refine wpAny_bind (wpAny_holding (thn (hi pins s1 σ H1 _ I1 q1) fun iv s2 ⟨y, H2, I2, r2, q2⟩ => ?_))
  refine wpAny_bind (wpAny_standAt (wpAny_bind (wpAny_holding (thn (hs pins s2 σ H2 x y v ov iv u _ I2 r1 r2 r q2) fun _ s3 ⟨H3, I3, q3⟩ => ?_))))
  exact wpAny_release ⟨σ, H3, I3, q3⟩
def tAsg (te : TE) (g : TG) : TS := fun D σ H => te σ H fun x H1 => g x σ H1 D.nx
theorem ps_asg {tg e : Expr} {te : TE} {g : TG} (he : PE X e te) (hg : PG X tg g) (hs : swapsWithSole [tg] e pos.line X.env = pure false := by rfl) (hw : swappedStores [tg] e X.env = pure none := by rfl)
    (h1 : (assignEach [tg] X.env).map (·.2) = [assign tg X.env] := by rfl) : PS X (.Assign [tg] e pos) (tAsg te g) := by
  intro pins s σ H D I h
  refine wpAny_Assign_stores (thn (he pins s σ H _ I h) fun v s1 ⟨x, H1, I1, r1, q1⟩ => ?_) hs hw
  rw [h1]
  exact thn (hg pins s1 σ H1 x v _ I1 r1 q1) fun _ s2 q => q
theorem ps_set {i : Nat} {x : Str} {e : Expr} {te : TE} {pos' : Pos} (hN : X.N.Nodup) (hi : X.N[i]? = some x) (hx : Loc X.env.scope x) (he : PE X e te) (hs : swapsWith e (some (.Name x pos')) pos.line X.env = pure false := by rfl) (hf : X.fn x = true ∨ X.env.scope.names.lookup x = some .local := by first | exact .inl rfl | exact .inr rfl | assumption) :
    PS X (.Assign [.Name x pos'] e pos) (tAsg te (gName i)) := by
  intro pins s σ H D I h
  refine wpAny_Assign_Name (thn (he pins s σ H _ I h) fun v s1 ⟨y, H1, I1, r1, q1⟩ => ?_) hs
  exact store_ok I1 hN hi hx r1 (fun s2 I2 => ⟨_, H1, I2, q1⟩) hf
end
section
variable {X : Cx} {pos : Pos}
def tWhile (c : TT) (tb : TS) : TS := fun D σ H => ∃ W : Nat → St → Hp → Prop, (∃ m, W m σ H) ∧ ∀ m σ H, W m σ H →
  c σ H fun b H1 => if b = true then ∃ N : St → Hp → Prop, (∀ σ' H', N σ' H' → ∃ m', m' < m ∧ W m' σ' H') ∧ tb { D with nx := N, ct := N, bk := D.nx } σ H1 else D.nx σ H1
theorem ps_while {c : Expr} {body : List Stmt} {tc : TT} {tb : TS} (hp : PassesOwn (model X.prog X.w) X.A X.env X.xe) (hc : PT X c tc) (hb : PSs X body tb) : PS X (.While c body [] pos) (tWhile tc tb) := by
  intro pins s σ H D I h
  obtain ⟨W, ⟨m0, w0⟩, turn⟩ := h
  refine wpAny_While (codeAny_whileLoop (fun n s' => ∃ σ' H', Inv X pins σ' H' s' ∧ W n σ' H') ?_ m0 ⟨σ, H, I, w0⟩)
  rintro n s1 ⟨σ1, H1, I1, w1⟩
  refine wpAny_passesOwn hp (thn (hc pins s1 σ1 H1 _ I1 (turn n σ1 H1 w1)) fun b s2 ⟨H2, I2, q2⟩ => ?_)
  cases b with
  | true =>
    obtain ⟨N, hN, q2⟩ := q2
    rw [if_pos rfl]
    refine wpAny_passesOwn hp (thn (hb pins s2 σ1 H2 _ I2 q2) fun f s3 q3 => ?_)
    cases f with
    | next =>
      obtain ⟨σ3, H3, I3, n3⟩ := q3
      obtain ⟨m', hm, w3⟩ := hN σ3 H3 n3
      exact ⟨m', hm, σ3, H3, I3, w3⟩
    | cont =>
      obtain ⟨σ3, H3, I3, n3⟩ := q3
      obtain ⟨m', hm, w3⟩ := hN σ3 H3 n3
      exact ⟨m', hm, σ3, H3, I3, w3⟩
    | brk => exact q3
    | ret v => exact q3
  | false =>
    rw [if_neg Bool.false_ne_true]
    exact wpAny_execs_nil ⟨σ1, H2, I2, q2⟩
end
structure It where
  go : Nat → Hp → Prop
  yld : Nat → Hp → V → Hp → Prop
  stop : Nat → Hp → Prop
def FpOk (X : Cx) (pins : List (Addr × Obj)) (H : Hp) (b : Addr) : Prop :=
  H b = none ∧ b ≠ X.env.locals ∧ b ∉ X.fs ∧ (b ∈ X.ex ∨ X.s₀.heap.objs.size ≤ b) ∧ (∀ x c, X.env.cells.lookup x = some c → c ≠ b) ∧ ∀ p ∈ X.pn ++ pins, p.1 ≠ b
theorem Inv.fpOk {X : Cx} {pins : List (Addr × Obj)} {σ : St} {H H' : Hp} {s : Shared} {b : Addr} (I : Inv X pins σ H s) (hb : s.heap.objs.size ≤ b) (hn : H' b = none) : FpOk X pins H' b := by
  refine ⟨hn, Nat.ne_of_gt (Nat.lt_of_lt_of_le I.lt hb), I.nofs hb, .inr (Nat.le_trans I.sz hb), fun x c e z => ?_, fun p hp z => ?_⟩
  · obtain ⟨v, q⟩ := I.cell x c e
    exact absurd (Nat.lt_of_lt_of_le q.lt (by rw [z]; exact hb)) (Nat.lt_irrefl _)
  · exact absurd (Nat.lt_of_lt_of_le (Heap.lt_size (I.pin p hp).1) (by rw [z]; exact hb)) (Nat.lt_irrefl _)
structure Turn (P : Program) (w : World) (K : PySem.W.Frag) (tg : Expr) (J : It) (fp : List Addr) (it : Addr) (tn : Nat → Heap → Prop) : Prop where
  mem : it ∈ fp
  obj : ∀ i h, tn i h → ∀ b ∈ fp, ∃ o, h.get? b = some o ∧ ∀ v, o.data ≠ .cell v
  keep : ∀ i h h', tn i h → (∀ b ∈ fp, ∀ o, h.get? b = some o → h'.get? b = some o) → tn i h'
  item : ∀ (X : Cx), X.prog = P → X.w = w → X.K = K → X.calm = true → ∀ (i : Nat) (pins : List (Addr × Obj)) (s : Shared) (σ : St) (H : Hp) (E : Value → Shared → Prop), Inv X pins σ H s → (∀ b ∈ fp, FpOk X pins H b) → tn i s.heap → J.go i H →
    wpAny (model P w) X.A (pyNext (.ref it)) (fun r s1 => ∃ u, r = some u ∧
      wpAny (model P w) X.A (letOwnedTupleGo tg (.ref it) u) (fun _ s2 => ∃ x H', Inv X pins σ H' s2 ∧ RelV x u ∧ J.yld i H x H' ∧ tn (i + 1) s2.heap ∧ ∀ b ∈ fp, H' b = none) E s1) E s
  done : ∀ (X : Cx), X.prog = P → X.w = w → X.K = K → X.calm = true → ∀ (i : Nat) (pins : List (Addr × Obj)) (s : Shared) (σ : St) (H : Hp) (E : Value → Shared → Prop), Inv X pins σ H s → (∀ b ∈ fp, FpOk X pins H b) → tn i s.heap → J.stop i H →
    wpAny (model P w) X.A (pyNext (.ref it)) (fun r s1 => r = none ∧ Inv X pins σ H s1) E s
  self : ∀ (A : Around) (i : Nat) (s : Shared) (Q : Value → Shared → Prop) (E : Value → Shared → Prop), tn i s.heap → Q (.ref it) s → wpAny (model P w) A (pyIter (.ref it)) Q E s
abbrev TI := St → Hp → (It → Hp → Prop) → Prop
def PIE (X : Cx) (pins : List (Addr × Obj)) (σ : St) (tg : Expr) (R : It → Hp → Prop) (itv : Value) (s2 : Shared) : Prop :=
  ∃ (it : Addr) (fp : List Addr) (tn : Nat → Heap → Prop) (J : It) (H' : Hp), itv = .ref it ∧ Inv X pins σ H' s2 ∧ Turn X.prog X.w X.K tg J fp it tn ∧ tn 0 s2.heap ∧ (∀ b ∈ fp, FpOk X pins H' b) ∧ R J H'
def PI (X : Cx) (tg iter : Expr) (wi : TI) : Prop :=
  ∀ (pins : List (Addr × Obj)) (s : Shared) (σ : St) (H : Hp) (R : It → Hp → Prop), Inv X pins σ H s → wi σ H R →
    wpAny (model X.prog X.w) X.A (eval iter X.env) (fun v s1 => wpAny (model X.prog X.w) X.A (pyIter v) (PIE X pins σ tg R) X.xe s1) X.xe s

theorem go_of {M : Model} {A : Around} {E : Value → Shared → Prop} {s : Shared} {tg : Expr} {it : Addr} {u : Value} {o : Obj} {n : String} {vs : Array Value} {Q : Unit → Shared → Prop} (ho : s.heap.get? it = some o) (hc : o.cls = .type n) (hd : o.data = .fields vs)
    (hn : ["enumerate", "zip", "dict_itemiterator", "dict_reverseitemiterator", "odict_iterator", "itertools.zip_longest", "itertools.pairwise"].contains n = false) (hQ : Q () s) : wpAny M A (letOwnedTupleGo tg (.ref it) u) Q E s := by
  unfold letOwnedTupleGo
  cases tg <;> first
    | exact wpAny_pure hQ
    | (cases u <;> first
        | exact wpAny_pure hQ
        | (refine wpAny_bind (wpAny_load ho ?_)
           rw [hc, hd]
           show wpAny M A (if (["enumerate", "zip", "dict_itemiterator", "dict_reverseitemiterator", "odict_iterator", "itertools.zip_longest", "itertools.pairwise"].contains n && vs[0]? == some (rawInt _)) = true then _ else _) Q E s
           rw [if_neg (by intro h; rw [hn, Bool.false_and] at h; cases h)]
           exact wpAny_pure hQ))

def Itl (K : PySem.W.Frag) (a : Addr) : It :=
  ⟨fun i H => ∃ xs x, SqL K H a xs ∧ xs[i]? = some x, fun i H x H' => H' = H ∧ ∀ xs, SqL K H a xs → xs[i]? = some x, fun i H => ∃ xs, SqL K H a xs ∧ xs.length ≤ i⟩
def Itr (lo : Int) (n : Nat) : It := ⟨fun i _ => i < n, fun i H x H' => H' = H ∧ x = .int (lo + i), fun i _ => n ≤ i⟩
theorem turn_list {P : Program} {w : World} {K : PySem.W.Frag} {tg : Expr} (a it : Addr) : Turn P w K tg (Itl K a) [it] it (fun i h => h.IsListIter it a i) where
  mem := by simp
  obj := fun i h st b hb => by
    have e : b = it := by simpa using hb
    subst e
    obtain ⟨o, e, c, d⟩ := st
    exact ⟨o, e, fun v z => by rw [d] at z; cases z⟩
  keep := fun i h h' st k => st.at fun o e => k it (by simp) o e
  item := by
    intro X hP hw hK hc i pins s σ H E I hf st hg
    subst hP hw hK
    obtain ⟨xs, x, hq, hx⟩ := hg
    obtain ⟨its, rv, p, hz⟩ := I.list hq
    obtain ⟨u, hu, ru⟩ := rv.get hx
    obtain ⟨f0, f1, f2, f3, f4, f5⟩ := hf it (by simp)
    refine wpAny_pyNext_list_item st p.isList (x := u) (by simpa using hu) fun h' st' sb => ?_
    have I1 : Inv X pins σ H { s with heap := h' } := I.turned (t' := s.toks) (fun b o hb e => (sb.2 b hb).trans e) f0 f1 f3 f4 f5
    obtain ⟨o, e, c, d⟩ := id st'
    exact ⟨u, rfl, go_of (s := { s with heap := h' }) e c d (by decide) ⟨x, H, I1, ru, ⟨rfl, fun ys hy => by rw [I.list_inj hy hq]; exact hx⟩, st', fun b hb => (hf b hb).1⟩⟩
  done := by
    intro X hP hw hK hc i pins s σ H E I hf st hg
    subst hP hw hK
    obtain ⟨xs, hq, hx⟩ := hg
    obtain ⟨its, rv, p, hz⟩ := I.list hq
    obtain ⟨f0, f1, f2, f3, f4, f5⟩ := hf it (by simp)
    have hl := rv.length
    exact wpAny_pyNext_list_end (I.ok.hd hc) st p.isList (by simp; omega) fun h' eb => ⟨rfl, I.turned (t' := s.toks) (fun b o hb e => eb b o hb e) f0 f1 f3 f4 f5⟩
  self := fun _ _ _ _ _ st h => wpAny_pyIter_listiter st h
theorem turn_range {P : Program} {w : World} {K : PySem.W.Frag} {tg : Expr} (it : Addr) (lo : Int) (n : Nat) : Turn P w K tg (Itr lo n) [it] it (fun i h => IsRangeIter h it (lo + (i : Nat) * 1) ((n : Int) - (i : Nat)) 1) where
  mem := by simp
  obj := fun i h st b hb => by
    have e : b = it := by simpa using hb
    subst e
    exact ⟨_, st, fun v z => by
      have z' : Data.fields _ = Data.cell v := z
      cases z'⟩
  keep := fun i h h' st k => k it (by simp) _ st
  item := by
    intro X hP hw hK hc i pins s σ H E I hf st hg
    subst hP hw hK
    obtain ⟨f0, f1, f2, f3, f4, f5⟩ := hf it (by simp)
    have W := Walks.range (prog := X.prog) (w := X.w) (I.ok.hd hc) it lo 1 n
    refine W.item i s _ _ hg st fun v h' tk hv st' kk => ?_
    obtain ⟨t, rfl⟩ := hv
    have I1 : Inv X pins σ H { s with heap := h', toks := tk } := I.turned (fun b o hb e => kk b o (by simpa using hb) e) f0 f1 f3 f4 f5
    refine ⟨_, rfl, go_of (s := { s with heap := h', toks := tk }) (n := "range_iterator") st' rfl rfl (by decide) ⟨.int (lo + i), H, I1, ⟨t, ?_⟩, ⟨rfl, rfl⟩, st', fun b hb => (hf b hb).1⟩⟩
    rw [Int.mul_one]
  done := by
    intro X hP hw hK hc i pins s σ H E I hf st hg
    subst hP hw hK
    obtain ⟨f0, f1, f2, f3, f4, f5⟩ := hf it (by simp)
    exact wpAny_pyNext_range_end (I.ok.hd hc) st (by have : n ≤ i := hg; omega) fun h' eb => ⟨rfl, I.turned (t' := s.toks) (fun b o hb e => eb b o hb e) f0 f1 f3 f4 f5⟩
  self := fun _ _ _ _ _ st h => wpAny_pyIter_rangeiter st h
end L2
namespace L2
open PySem PySem.Spec PyProof.Rows
section
variable {X : Cx} {tg : Expr}
def iList (K : PySem.W.Frag) (tl : TE) : TI := fun σ H R => tl σ H fun x H1 => ∃ a, x = .ref a ∧ (∃ xs, SqL K H1 a xs) ∧ R (Itl K a) H1
theorem pi_list {l : Expr} {tl : TE} (hl : PE X l tl) : PI X tg l (iList X.K tl) := by
  intro pins s σ H R I h
  refine thn (hl pins s σ H _ I h) fun v s1 ⟨x, H1, I1, r1, q1⟩ => ?_
  obtain ⟨a, e, ⟨xs, hq⟩, q⟩ := q1
  subst e
  cases r1
  obtain ⟨its, rv, p, hz⟩ := I1.list hq
  refine wpAny_pyIter_list p.isList ?_
  refine ⟨s1.heap.objs.size, [s1.heap.objs.size], _, _, H1, rfl, I1.kept (t' := s1.toks) fun b o e => Heap.get?_push_of_some _ e, turn_list a _, ⟨_, Heap.get?_push_size _ rfl, rfl, rfl⟩, fun b hb => ?_, q⟩
  have e : b = s1.heap.objs.size := by simpa using hb
  subst e
  exact I1.fpOk (Nat.le_refl _) (I1.hok.fresh (Nat.le_refl _))
theorem range_it {pins : List (Addr × Obj)} {σ : St} {H : Hp} {s : Shared} {R : It → Hp → Prop} {E : Value → Shared → Prop} {lo hi : Int} {t u v : Tok} {tk : Nat} (I : Inv X pins σ H s) (h1 : -(2 ^ 62) ≤ lo) (h2 : lo < 2 ^ 62) (h3 : -(2 ^ 62) ≤ hi) (h4 : hi < 2 ^ 62)
    (q : R (Itr lo (hi - lo).toNat) H) : wpAny (model X.prog X.w) X.A (pyIter (.ref s.heap.objs.size)) (PIE X pins σ tg R) E { s with heap := s.heap.push { cls := .type "range", data := .fields #[.int lo t, .int hi u, .int 1 v] }, toks := tk } := by
  refine wpAny_pyIter_range (IsRange.new ..) (small_one h1 h2 h3 h4) ?_
  have I1 : Inv X pins σ H { s with heap := s.heap.push { cls := .type "range", data := .fields #[.int lo t, .int hi u, .int 1 v] }, toks := tk } := I.kept fun b o e => Heap.get?_push_of_some _ e
  refine ⟨(s.heap.push { cls := .type "range", data := .fields #[.int lo t, .int hi u, .int 1 v] }).objs.size, [(s.heap.push { cls := .type "range", data := .fields #[.int lo t, .int hi u, .int 1 v] }).objs.size], _, _, H, rfl,
    I1.kept (t' := tk) fun b o e => Heap.get?_push_of_some _ e, turn_range _ lo (hi - lo).toNat, ?_, fun b hb => ?_, q⟩
  · have e1 : lo + ((0 : Nat) : Int) * 1 = lo := by simp
    have e2 : (((hi - lo).toNat : Nat) : Int) - ((0 : Nat) : Int) = Builtin.Range.rangeSize lo hi 1 := by rw [rangeSize_one]; split <;> omega
    show IsRangeIter _ _ (lo + ((0 : Nat) : Int) * 1) ((((hi - lo).toNat : Nat) : Int) - ((0 : Nat) : Int)) 1
    rw [e1, e2]
    exact Heap.get?_push_size _ rfl
  · have e : b = (s.heap.push { cls := .type "range", data := .fields #[.int lo t, .int hi u, .int 1 v] }).objs.size := by simpa using hb
    subst e
    exact I1.fpOk (Nat.le_refl _) (I1.hok.fresh (Nat.le_refl _))
def iRng1 (ta : TA) : TI := fun σ H R => ta σ H fun vs H1 => ∃ j : Int, vs = [.int j] ∧ -(2 ^ 62) ≤ j ∧ j < 2 ^ 62 ∧ R (Itr 0 j.toNat) H1
theorem pi_range1 {a : Expr} {ta : TA} {p pos : Pos} (hg : Gl X "range") (hm : X.mg "range" = none) (ha : PA X [a] ta) (hs : starEach [a] X.env = [(false, eval a X.env)] := by rfl) : PI X tg (.Call (.Name "range" p) [a] [] pos) (iRng1 ta) := by
  intro pins s σ H R I h
  refine Call_ (ld_blt I hg hm boot_range (PyProof.Rows.callWith_type1 (thn (ha pos pins s σ H _ I h) fun us s1 ⟨vs, H1, I1, r1, q1⟩ => ?_) hs rfl))
  obtain ⟨j, e, q1, q2, q⟩ := q1
  subst e
  cases r1 with
  | cons r rr =>
    cases rr
    obtain ⟨t, rfl⟩ := r
    exact call_range_1 (range_it I1 (by omega) (by omega) q1 q2 (by simpa using q))
def tFor (wi : TI) (g : TG) (tb : TS) : TS := fun D σ H => wi σ H fun J H1 => ∃ W : Nat → Nat → St → Hp → Prop, (∃ m, W 0 m σ H1) ∧ ∀ i m σ H, W i m σ H →
  (J.stop i H ∧ D.nx σ H) ∨ (J.go i H ∧ ∃ N : St → Hp → Prop, (∀ σ' H', N σ' H' → ∃ m', m' < m ∧ W (i + 1) m' σ' H') ∧ ∀ x H', J.yld i H x H' → g x σ H' fun σ2 H2 => tb { D with nx := N, ct := N, bk := D.nx } σ2 H2)
def pinsAt (fp : List Addr) (h : Heap) : List (Addr × Obj) := fp.filterMap fun b => (h.get? b).map fun o => (b, o)
theorem mem_pinsAt {fp : List Addr} {h : Heap} {b : Addr} {o : Obj} (hb : b ∈ fp) (e : h.get? b = some o) : (b, o) ∈ pinsAt fp h := List.mem_filterMap.mpr ⟨b, hb, by rw [e]; rfl⟩
theorem of_pinsAt {fp : List Addr} {h : Heap} {p : Addr × Obj} (hp : p ∈ pinsAt fp h) : p.1 ∈ fp ∧ h.get? p.1 = some p.2 := by
  obtain ⟨b, hb, e⟩ := List.mem_filterMap.mp hp
  cases q : h.get? b with
  | none => rw [q] at e; cases e
  | some o =>
    rw [q] at e
    have e' : (b, o) = p := Option.some.inj e
    subst e'
    exact ⟨hb, q⟩
theorem Inv.pinned {pins : List (Addr × Obj)} {σ : St} {H : Hp} {s : Shared} {fp : List Addr} (I : Inv X pins σ H s) (hf : ∀ b ∈ fp, FpOk X pins H b) (ho : ∀ b ∈ fp, ∃ o, s.heap.get? b = some o ∧ ∀ v, o.data ≠ .cell v) : Inv X (pins ++ pinsAt fp s.heap) σ H s :=
  I.pins_of fun p hp => (List.mem_append.mp hp).elim (fun z => I.pin p (List.mem_append_right _ z)) fun z => by
    obtain ⟨hb, e⟩ := of_pinsAt z
    obtain ⟨f0, f1, f2, _⟩ := hf p.1 hb
    obtain ⟨o, e', d⟩ := ho p.1 hb
    rw [e] at e'; cases e'
    exact ⟨e, f0, f1, f2, d⟩
theorem Inv.unpinned {pins pl : List (Addr × Obj)} {σ : St} {H : Hp} {s : Shared} (I : Inv X (pins ++ pl) σ H s) : Inv X pins σ H s := I.pins_of fun p hp => I.pin p (List.mem_append_right _ (List.mem_append_left _ hp))
theorem ps_for {iter : Expr} {body : List Stmt} {wi : TI} {g : TG} {tb : TS} {pos : Pos} (hp : PassesOwn (model X.prog X.w) X.A X.env X.xe) (hc : X.calm = true) (hi : PI X tg iter wi) (hg : PG X tg g) (hb : PSs X body tb)
    (hs : ∀ x, foldedSetIterable iter X.env x = pure x := by intro _; rfl) : PS X (.For tg iter body [] pos) (tFor wi g tb) := by
  intro pins s σ H D I h
  refine wpAny_For (thn (hi pins s σ H _ I h) fun v s1 h1 => thn h1 fun itv s2 h2 => ?_) hs
  obtain ⟨it, fp, tn, J, H2, e, I2, T, st2, f2, W, ⟨m0, w0⟩, turn⟩ := h2
  subst e
  -- what stays true of the iterator's objects through the loop
  have stat : ∀ {H' : Hp}, (∀ b ∈ fp, H' b = none) → ∀ b ∈ fp, FpOk X pins H' b := fun hn b hb => ⟨hn b hb, (f2 b hb).2⟩
  refine codeAny_forLoop_any (fun n s' => ∃ i σ' H', Inv X pins σ' H' s' ∧ tn i s'.heap ∧ (∀ b ∈ fp, H' b = none) ∧ W i n σ' H') ?_ m0 ⟨0, σ, H2, I2, st2, fun b hb => (f2 b hb).1, w0⟩
  rintro n s3 ⟨i, σ3, H3, I3, st3, fr3, w3⟩
  rcases turn i n σ3 H3 w3 with ⟨stop, qn⟩ | ⟨go, N, hN, step⟩
  · refine wpAny_passesOwn hp (thn (T.done X rfl rfl rfl hc i pins s3 σ3 H3 X.xe I3 (stat fr3) st3 stop) fun r s4 ⟨hr, I4⟩ => ?_)
    subst hr
    exact wpAny_execs_nil ⟨σ3, H3, I4, qn⟩
  · refine wpAny_passesOwn hp (thn (T.item X rfl rfl rfl hc i pins s3 σ3 H3 X.xe I3 (stat fr3) st3 go) fun r s4 ⟨u, hr, h4⟩ => ?_)
    subst hr
    refine wpAny_passesOwn hp (thn h4 fun _ s5 ⟨x, H5, I5, r5, y5, st5, fr5⟩ => ?_)
    have I5' := I5.pinned (stat fr5) (T.obj _ _ st5)
    refine wpAny_passesOwn hp (thn (hg _ s5 σ3 H5 x u _ I5' r5 (step x H5 y5)) fun _ s6 ⟨σ6, H6, I6, q6⟩ => ?_)
    refine wpAny_passesOwn hp (thn (hb _ s6 σ6 H6 _ I6 q6) fun f s7 q7 => ?_)
    have again : ∀ {σ7 : St} {H7 : Hp}, Inv X (pins ++ pinsAt fp s5.heap) σ7 H7 s7 → N σ7 H7 → ∃ m, m < n ∧ ∃ i σ' H', Inv X pins σ' H' s7 ∧ tn i s7.heap ∧ (∀ b ∈ fp, H' b = none) ∧ W i m σ' H' := fun {σ7 H7} I7 n7 => by
      obtain ⟨m', hm, w7⟩ := hN σ7 H7 n7
      refine ⟨m', hm, i + 1, σ7, H7, I7.unpinned, T.keep _ _ _ st5 fun b hb o e => (I7.pin (b, o) (List.mem_append_right _ (List.mem_append_right _ (mem_pinsAt hb e)))).1, fun b hb => ?_, w7⟩
      obtain ⟨o, e, d⟩ := T.obj _ _ st5 b hb
      exact (I7.pin (b, o) (List.mem_append_right _ (List.mem_append_right _ (mem_pinsAt hb e)))).2.1
    cases f with
    | next => obtain ⟨σ7, H7, I7, n7⟩ := q7; exact again I7 n7
    | cont => obtain ⟨σ7, H7, I7, n7⟩ := q7; exact again I7 n7
    | brk => obtain ⟨σ7, H7, I7, q7⟩ := q7; exact ⟨σ7, H7, I7.unpinned, q7⟩
    | ret v => obtain ⟨x7, σ7, H7, I7, r7, q7⟩ := q7; exact ⟨x7, σ7, H7, I7.unpinned, r7, q7⟩
end
end L2
namespace L2
open PySem PySem.Spec PyProof.Rows
abbrev R2 := V → V → Hp → VK → Prop
def OpR (X : Cx) (f : Value → Value → Sem Value) (r : R2) : Prop :=
  ∀ (pins : List (Addr × Obj)) (s : Shared) (σ : St) (H : Hp) (x y : V) (v u : Value) (Q : VK), Inv X pins σ H s → RelV x v → RelV y u → r x y H Q →
    wpAny (model X.prog X.w) X.A (f v u) (EP X pins σ Q) X.xe s
def CallR (X : Cx) (f : Value) (r : List V → Hp → VK → Prop) : Prop :=
  ∀ (pins : List (Addr × Obj)) (s : Shared) (σ : St) (H : Hp) (xs : List V) (us : List Value) (Q : VK), Inv X pins σ H s → Vals xs us → r xs H Q →
    wpAny (model X.prog X.w) X.A (call f us) (EP X pins σ Q) X.xe s
def tOp (r : R2) (ta tb : TE) : TE := fun σ H Q => ta σ H fun x H1 => tb σ H1 fun y H2 => r x y H2 Q
def rI (C : Int → Int → Prop) (g : Int → Int → V) : R2 := fun x y H Q => ∃ i j, x = .int i ∧ y = .int j ∧ C i j ∧ Q (g i j) H
def rI0 (g : Int → Int → V) : R2 := fun x y H Q => ∃ i j, x = .int i ∧ y = .int j ∧ Q (g i j) H
section
variable {X : Cx} {a b c : Expr} {ta tb tc : TE} {pos : Pos}
theorem binT (ha : PE X a ta) (hb : PE X b tb) {pins : List (Addr × Obj)} {s : Shared} {σ : St} {H : Hp} {R : V → V → Hp → Prop} (I : Inv X pins σ H s)
    (h : ta σ H fun x H1 => tb σ H1 fun y H2 => R x y H2) {Q : Value → Shared → Prop} {f : Value → Value → Sem Value}
    (hf : ∀ v u s2 x y H2, Inv X pins σ H2 s2 → RelV x v → RelV y u → R x y H2 → wpAny (model X.prog X.w) X.A (f v u) Q X.xe s2) :
    wpAny (model X.prog X.w) X.A (eval a X.env) (fun v s₁ => wpAny (model X.prog X.w) X.A (eval b X.env) (fun u s₂ => wpAny (model X.prog X.w) X.A (f v u) Q X.xe s₂) X.xe s₁) X.xe s := by
  refine thn (ha pins s σ H _ I h) fun v s1 ⟨x, H1, I1, r1, q1⟩ => ?_
  refine thn (hb pins s1 σ H1 _ I1 q1) fun u s2 ⟨y, H2, I2, r2, q2⟩ => ?_
  exact hf v u s2 x y H2 I2 r1 r2 q2

theorem pe_op {op : Operator} {r : R2} (ho : OpR X (binaryOp op) r) (ha : PE X a ta) (hb : PE X b tb) : PE X (.BinOp a op b pos) (tOp r ta tb) := by
  intro pins s σ H Q I h
  exact wpAny_BinOp (binT ha hb I h fun v u s2 x y H2 I2 rx ry q => ho pins s2 σ H2 x y v u Q I2 rx ry q)
theorem opI {f : Value → Value → Sem Value} {C : Int → Int → Prop} {g : Int → Int → Int}
    (rule : ∀ (i j : Int) (t u : Tok) (s : Shared) (Q : Value → Shared → Prop) (E : Value → Shared → Prop), C i j → Q (.int (g i j) s.toks) { s with toks := s.toks + 1 } → wpAny (model X.prog X.w) X.A (f (.int i t) (.int j u)) Q E s) :
    OpR X f (rI C fun i j => .int (g i j)) := by
  intro pins s σ H x y v u Q I rx ry h
  obtain ⟨i, j, rfl, rfl, hc, q⟩ := h
  obtain ⟨t, rfl⟩ := rx
  obtain ⟨t', rfl⟩ := ry
  exact rule i j t t' s _ _ hc ⟨.int (g i j), H, I.tok _, ⟨_, rfl⟩, q⟩
theorem opI0 {f : Value → Value → Sem Value} {g : Int → Int → Int}
    (rule : ∀ (i j : Int) (t u : Tok) (s : Shared) (Q : Value → Shared → Prop) (E : Value → Shared → Prop), Q (.int (g i j) s.toks) { s with toks := s.toks + 1 } → wpAny (model X.prog X.w) X.A (f (.int i t) (.int j u)) Q E s) :
    OpR X f (rI0 fun i j => .int (g i j)) := by
  intro pins s σ H x y v u Q I rx ry h
  obtain ⟨i, j, rfl, rfl, q⟩ := h
  obtain ⟨t, rfl⟩ := rx
  obtain ⟨t', rfl⟩ := ry
  exact rule i j t t' s _ _ ⟨.int (g i j), H, I.tok _, ⟨_, rfl⟩, q⟩
theorem opB0 {f : Value → Value → Sem Value} {g : Int → Int → Bool}
    (rule : ∀ (i j : Int) (t u : Tok) (s : Shared) (Q : Value → Shared → Prop) (E : Value → Shared → Prop), Q (.bool (g i j)) s → wpAny (model X.prog X.w) X.A (f (.int i t) (.int j u)) Q E s) :
    OpR X f (rI0 fun i j => .bl (g i j)) := by
  intro pins s σ H x y v u Q I rx ry h
  obtain ⟨i, j, rfl, rfl, q⟩ := h
  obtain ⟨t, rfl⟩ := rx
  obtain ⟨t', rfl⟩ := ry
  exact rule i j t t' s _ _ ⟨.bl (g i j), H, I, rfl, q⟩

def CDiv (i j : Int) : Prop := 0 < j ∧ j < 1073741824
def CPow (i j : Int) : Prop := 0 ≤ j ∧ j ≤ 1000000 ∧ i.natAbs < 2 ^ 64
def CMul (i j : Int) : Prop := (-(2 ^ 64) < i ∧ i < 2 ^ 64) ∨ (-(2 ^ 64) < j ∧ j < 2 ^ 64)
theorem CMul.ok {i j : Int} (h : CMul i j) : IntMulOk i j := by
  rcases h with ⟨h1, h2⟩ | ⟨h1, h2⟩
  · exact .of_left (intBits_le_64 h1 h2)
  · exact .of_right (intBits_le_64 h1 h2)
theorem op_add : OpR X (binaryOp .Add) (rI0 fun i j => .int (i + j)) := opI0 fun _ _ _ _ _ _ _ q => add_int q
theorem op_sub : OpR X (binaryOp .Sub) (rI0 fun i j => .int (i - j)) := opI0 fun _ _ _ _ _ _ _ q => sub_int q
theorem op_mul : OpR X (binaryOp .Mult) (rI CMul fun i j => .int (i * j)) := opI fun _ _ _ _ _ _ _ hc q => mul_int q hc.ok
theorem op_fdiv : OpR X (binaryOp .FloorDiv) (rI CDiv fun i j => .int (i / j)) := opI fun i j _ _ _ _ _ hc q => by
  have h1 : (0 : Int) < j := hc.1
  have h2 : j < 1073741824 := hc.2
  exact floordiv_int (by omega) (by rw [Int.fdiv_eq_ediv_of_nonneg i (by omega)]; exact q) (.inl (PyProof.noPylong_small (by omega)))
theorem op_mod : OpR X (binaryOp .Mod) (rI (fun _ j => 0 < j) fun i j => .int (i % j)) := opI fun i j _ _ _ _ _ hc q => by
  have h1 : (0 : Int) < j := hc
  exact mod_int' (by omega) (by rw [Int.fmod_eq_emod_of_nonneg i (by omega)]; exact q)
theorem op_pow : OpR X (binaryOp .Pow) (rI CPow fun i j => .int (i ^ j.toNat)) := opI fun _ _ _ _ _ _ _ hc q => pow_int_small hc.1 hc.2.1 hc.2.2 q
end
section
variable {X : Cx} {a b c : Expr} {ta tb tc : TE} {pos : Pos}
theorem fin_bl {pins : List (Addr × Obj)} {σ : St} {H : Hp} {s : Shared} {Q : VK} {k k' : Bool} (I : Inv X pins σ H s) (q : Q (.bl k) H) (e : k = k') : EP X pins σ Q (.bool k') s := by
  subst e
  exact ⟨.bl k, H, I, rfl, q⟩
theorem op_lt : OpR X (compareOp .Lt) (rI0 fun i j => .bl (decide (i < j))) := opB0 fun _ _ _ _ _ _ _ q => lt_int q
theorem op_gt : OpR X (compareOp .Gt) (rI0 fun i j => .bl (decide (j < i))) := opB0 fun _ _ _ _ _ _ _ q => gt_int q
theorem op_lt_str : OpR X (compareOp .Lt) (fun x y H Q => ∃ i j, x = .str i ∧ y = .str j ∧ Q (.bl (decide (i.cps.toList < j.cps.toList))) H) := by
  intro pins s σ H x y v u Q I rx ry h
  obtain ⟨i, j, rfl, rfl, q⟩ := h
  obtain ⟨t, rfl⟩ := rx
  obtain ⟨t', rfl⟩ := ry
  exact lt_str (fin_bl I q rfl)
theorem OpR.or {f : Value → Value → Sem Value} {r r' : R2} (h : OpR X f r) (h' : OpR X f r') : OpR X f (fun x y H Q => r x y H Q ∨ r' x y H Q) := by
  intro pins s σ H x y v u Q I rx ry q
  rcases q with q | q
  · exact h pins s σ H x y v u Q I rx ry q
  · exact h' pins s σ H x y v u Q I rx ry q

theorem nomark (b : Expr) {op : CmpOp} (h : op ≠ .In := by decide) (h2 : op ≠ .NotIn := by decide) : behindInMarks op b = false := by
  have e1 : (op == CmpOp.In) = false := by cases op <;> first | rfl | exact absurd rfl h
  have e2 : (op == CmpOp.NotIn) = false := by cases op <;> first | rfl | exact absurd rfl h2
  cases b <;> simp [behindInMarks, e1, e2]
theorem pe_cmpR {op : CmpOp} {r : R2} (ho : OpR X (compareOp op) r) (ha : PE X a ta) (hb : PE X b tb) (hm : behindInMarks op b = false) : PE X (.Compare a [op] [b] pos) (tOp r ta tb) := by
  intro pins s σ H Q I h
  exact wpAny_Compare1 (binT ha hb I h fun v u s2 x y H2 I2 rx ry q => ho pins s2 σ H2 x y v u Q I2 rx ry q) hm
def tTest (t : TE) : TT := fun σ H Q => t σ H fun x H' => ∃ k, x = .bl k ∧ Q k H'
theorem pt_cmpR {op : CmpOp} {r : R2} (ho : OpR X (compareOp op) r) (ha : PE X a ta) (hb : PE X b tb) (hm : behindInMarks op b = false) : PT X (.Compare a [op] [b] pos) (tTest (tOp r ta tb)) := by
  intro pins s σ H Q I h
  refine wpAny_isTrue_Compare1 (thn (ha pins s σ H _ I h) fun v s1 ⟨x, H1, I1, r1, q1⟩ => thn (hb pins s1 σ H1 _ I1 q1) fun u s2 ⟨y, H2, I2, r2, q2⟩ =>
    thn (ho pins s2 σ H2 x y v u _ I2 r1 r2 q2) fun c s3 ⟨z, H3, I3, r3, k, e, q3⟩ => ?_) hm
  subst e
  cases r3
  exact wpAny_truthy_bool ⟨H3, I3, q3⟩
theorem line63 : (sizeLine : Nat) < 2 ^ 63 := by rw [sizeLine_eq]; decide
theorem op_add_str : OpR X (binaryOp .Add) (fun x y H Q => ∃ i j, x = .str i ∧ y = .str j ∧ i.length + j.length ≤ sizeLine ∧ Q (.str (i ++ j)) H) := by
  intro pins s σ H x y v u Q I rx ry h
  obtain ⟨i, j, rfl, rfl, hz, q⟩ := h
  obtain ⟨t, rfl⟩ := rx
  obtain ⟨t', rfl⟩ := ry
  exact add_str (fun t' tk => ⟨.str (i ++ j), H, I.tok _, ⟨_, rfl⟩, q⟩) hz
theorem vals1 {x : V} {us : List Value} (r : Vals [x] us) : ∃ u, us = [u] ∧ RelV x u := by
  cases r with
  | cons r1 r2 => cases r2; exact ⟨_, rfl, r1⟩
theorem vals2 {x y : V} {us : List Value} (r : Vals [x, y] us) : ∃ u w', us = [u, w'] ∧ RelV x u ∧ RelV y w' := by
  cases r with
  | cons r1 r2 =>
    cases r2 with
    | cons r3 r4 => cases r4; exact ⟨_, _, rfl, r1, r3⟩
theorem call_abs : CallR X (.builtin "abs") (fun xs H Q => ∃ i, xs = [.int i] ∧ Q (.int (if i < 0 then -i else i)) H) := by
  intro pins s σ H xs us Q I r h
  obtain ⟨i, rfl, q⟩ := h
  obtain ⟨u, rfl, t, rfl⟩ := vals1 r
  exact call_abs_int fun u tk => ⟨.int (if i < 0 then -i else i), H, I.tok _, ⟨_, rfl⟩, q⟩
theorem call_ord : CallR X (.builtin "ord") (fun xs H Q => ∃ x, xs = [.str x] ∧ x.length = 1 ∧ Q (.int (x.cps.getD 0 0 : Nat)) H) := by
  intro pins s σ H xs us Q I r h
  obtain ⟨x, rfl, hz, q⟩ := h
  obtain ⟨u, rfl, t, rfl⟩ := vals1 r
  exact ord_of_one hz ⟨.int _, H, I.tok _, ⟨_, rfl⟩, q⟩
end
end L2
namespace L2
open PySem PySem.Spec PyProof.Rows
structure Room (k : Nat) (A : Around) : Prop where
  hd : A.handled = none
  dp : A.depth + 3 * k + 5 < recursionLimit
  un : A.units + 16 * k + 200 < cLine
theorem Room.mono {j k : Nat} {A : Around} (r : Room k A) (h : j ≤ k) : Room j A := ⟨r.hd, by have := r.dp; omega, by have := r.un; omega⟩
theorem Room.deeper {k : Nat} {A : Around} (r : Room (k + 1) A) (env : Env) : Room k (A.deeper env) :=
  ⟨r.hd, by have := r.dp; show A.depth + 1 + 3 * k + 5 < _; omega, by have := r.un; show A.units + 3 + 16 * k + 200 < _; omega⟩
theorem Room.depth {k : Nat} {A : Around} (r : Room k A) : A.depth < recursionLimit := by have := r.dp; omega
def tNil : TA := fun _ H Q => Q [] H
def tCons (ta : TE) (tr : TA) : TA := fun σ H Q => ta σ H fun x H1 => tr σ H1 fun xs H2 => Q (x :: xs) H2
section
variable {X : Cx} {e : Expr} {es : List Expr} {te : TE} {t : TA} {pos : Pos}
theorem pa_nil : PA X [] tNil := fun _ _ _ _ H Q I h => Calls.spliced_nil ⟨[], H, I, .nil, h⟩
theorem pa_cons (ha : PE X e te) (hr : PA X es t) (hs : starEach (e :: es) X.env = (false, eval e X.env) :: starEach es X.env := by rfl) : PA X (e :: es) (tCons te t) := by
  intro pos pins s σ H Q I h
  rw [hs]
  show wpAny _ _ (spliced ((false, eval e X.env) :: backTo pos (starEach es X.env))) _ _ s
  refine Calls.spliced_cons (thn (ha pins s σ H _ I h) fun u s1 ⟨x, H1, I1, r1, q1⟩ => ?_)
  exact thn (hr pos pins s1 σ H1 _ I1 q1) fun us s2 ⟨xs, H2, I2, r2, q2⟩ => ⟨x :: xs, H2, I2, .cons r1 r2, q2⟩

def tLst (t : TA) : TE := fun σ H Q => t σ H fun xs H1 => xs.length ≤ sizeLine ∧ ∀ p, H1 p = none → Q (.ref p) (upd H1 p (.lst xs))
theorem pe_lst (h : PA X es t) : PE X (.List es pos) (tLst t) := by
  intro pins s σ H Q I hq
  refine wpAny_List_spliced (thn (h pos pins s σ H _ I hq) fun us s1 ⟨xs, H1, I1, r, z, q⟩ => ⟨by rw [← r.length]; exact z, ?_⟩)
  have hf : H1 s1.heap.objs.size = none := I1.hok.fresh (Nat.le_refl _)
  refine ⟨.ref s1.heap.objs.size, upd H1 s1.heap.objs.size (.lst xs), I1.laid (t' := s1.toks) (fun b u e => Heap.get?_push_of_some _ e) (Nat.le_refl _) ?_, rfl, q _ hf⟩
  exact ⟨z, us, 0, r, Heap.get?_push_size _ rfl⟩
end
abbrev Sp := List V → Hp → VK → XK → Prop
abbrev CXT := List Env → Hp → Shared → XK → Value → Shared → Prop

structure Env0 (P : Program) (w : World) (K : PySem.W.Frag) (mg : Str → Option Value) (base : Heap) (A : Around) (outer : List Env) (s : Shared) (H : Hp) : Prop where
  frames : A.frames = some outer
  mod : Mod K mg base
  bs : ∀ b o, base.get? b = some o → s.heap.get? b = some o ∧ H b = none
  bsz : base.objs.size ≤ s.heap.objs.size
  funs : s.heap.FunFrames base outer
  frf : ∀ b ∈ frs outer, H b = none
  hok : HOk P w H s.heap
  bare : AllBare s.gens
def CE (outer : List Env) (P : Program) (w : World) (H : Hp) (s : Shared) (Q : VK) (u : Value) (s' : Shared) : Prop :=
  ∃ v H', s'.os = s.os ∧ AllBare s'.gens ∧ Un (frs outer) [] H H' s.heap s'.heap ∧ HOk P w H' s'.heap ∧ RelV v u ∧ Q v H'
def CR (CX : CXT) (outer : List Env) (P : Program) (w : World) (H : Hp) (s : Shared) (Q : VK) (E : XK) (r : Result) (s' : Shared) : Prop :=
  match r with
  | .ok (.ret u) => CE outer P w H s Q u s'
  | .ok _ => False
  | .error e => CX outer H s E e s'
structure FnOk (P : Program) (w : World) (K : PySem.W.Frag) (mg : Str → Option Value) (base : Heap) (CX : CXT) (k : Nat) (f : Addr) (fd : FuncData) (ps : List Str) (sp : Sp) : Prop where
  len : ∀ vs H Q E, sp vs H Q E → vs.length = ps.length
  run : ∀ (A : Around) (outer : List Env) (s : Shared) (H : Hp) (args : Args) (us : List Value) (vs : List V) (Q : VK) (E : XK), Room k A → Env0 P w K mg base A outer s H → BindsTo s fd args (ps.zip us) → Vals vs us → sp vs H Q E →
    codeAny (model P w) A (.call (.ref f) args) (CR CX outer P w H s Q E) s
theorem FnOk.mono {P : Program} {w : World} {K : PySem.W.Frag} {mg : Str → Option Value} {base : Heap} {CX : CXT} {j k : Nat} {f : Addr} {fd : FuncData} {ps : List Str} {sp : Sp} (F : FnOk P w K mg base CX j f fd ps sp) (h : j ≤ k) :
    FnOk P w K mg base CX k f fd ps sp := ⟨F.len, fun A outer s H args us vs Q E hr => F.run A outer s H args us vs Q E (hr.mono h)⟩
theorem FnOk.imp {P : Program} {w : World} {K : PySem.W.Frag} {mg : Str → Option Value} {base : Heap} {CX : CXT} {k : Nat} {f : Addr} {fd : FuncData} {ps : List Str} {sp sp' : Sp} (F : FnOk P w K mg base CX k f fd ps sp)
    (h : ∀ vs H Q E, sp' vs H Q E → sp vs H Q E) : FnOk P w K mg base CX k f fd ps sp' :=
  ⟨fun vs H Q E q => F.len vs H Q E (h _ _ _ _ q), fun A outer s H args us vs Q E hr he hb hv hs => F.run A outer s H args us vs Q E hr he hb hv (h _ _ _ _ hs)⟩

section
variable {X : Cx} {pins : List (Addr × Obj)} {σ : St} {H : Hp} {s s' : Shared}
theorem Inv.env0 (I : Inv X pins σ H s) : Env0 X.prog X.w X.K X.mg X.base X.A X.stack s H :=
  ⟨I.ok.frames, I.ok.mod, I.bs, Nat.le_trans I.ok.bsz I.sz, I.stack, I.stkFree, I.hok, I.bare⟩
theorem Inv.after {Q : VK} {u : Value} (I : Inv X pins σ H s) (h : CE X.stack X.prog X.w H s Q u s') : EP X pins σ Q u s' := by
  obtain ⟨v, H', os, bare, un, hok, r, q⟩ := h
  obtain ⟨hh, g, d, t, os'⟩ := s'
  obtain rfl : os' = s.os := os
  exact ⟨v, H', I.call (h' := hh) (g' := g) (d' := d) (t' := t) (ch := []) un hok bare (fun b z => absurd z (by simp)), r, q⟩
end
def tCall (sp : Sp) (dvs : List V) (E : XK) (t : TA) : TE := fun σ H Q => t σ H fun vs H1 => sp (vs ++ dvs) H1 Q E
def Binds (K : PySem.W.Frag) (fd : FuncData) (ps : List Str) (ds : List Value) : Prop :=
  ∀ (s : Shared) (us : List Value), K.In s.heap → (us ++ ds).length = ps.length → BindsTo s fd ⟨us, []⟩ (ps.zip (us ++ ds))
theorem Binds.all {K : PySem.W.Frag} {fd : FuncData} {ps : List Str} (h : ∀ us : List Value, us.length = ps.length → bindArgs fd ⟨us, []⟩ = pure (ps.zip us)) : Binds K fd ps [] := fun s us _ hl => by
  rw [List.append_nil] at hl ⊢
  exact .of_eq (h us hl)

def Passes (CX : CXT) (X : Cx) (E : XK) : Prop := ∀ (pins : List (Addr × Obj)) (σ : St) (H : Hp) (s : Shared) (e : Value) (s' : Shared), Inv X pins σ H s → CX X.stack H s E e s' → X.xe e s'

section
variable {X : Cx} {CX : CXT} {k : Nat} {f C : Addr} {fd : FuncData} {ps : List Str} {sp : Sp} {dvs : List V} {ds : List Value} {E : XK} {x m : Str} {p pos apos : Pos} {e o : Expr} {es : List Expr} {ta : TE} {t : TA}
theorem run_fn {pins : List (Addr × Obj)} {σ : St} {H : Hp} {s : Shared} {Q : VK} {us : List Value} {vs : List V} (F : FnOk X.prog X.w X.K X.mg X.base CX k f fd ps sp) (hr : Room k X.A) (hb : Binds X.K fd ps ds) (hd : Vals dvs ds) (hx : Passes CX X E)
    (I : Inv X pins σ H s) (r : Vals vs us) (h : sp (vs ++ dvs) H Q E) : wpAny (model X.prog X.w) X.A (call (.ref f) us) (EP X pins σ Q) X.xe s := by
  have r2 : Vals (vs ++ dvs) (us ++ ds) := r.append hd
  have hl : (us ++ ds).length = ps.length := by rw [← r2.length]; exact F.len _ _ _ _ h
  refine wpAny_call (codeAny_mono (F.run X.A X.stack s H ⟨us, []⟩ (us ++ ds) (vs ++ dvs) Q E hr I.env0 (hb s us I.kIn hl) r2 h) fun r s' hq => ?_)
  cases r with
  | error e => exact hx pins σ H s e s' I hq
  | ok fl =>
    cases fl with
    | ret u => exact I.after hq
    | next => exact False.elim hq
    | brk => exact False.elim hq
    | cont => exact False.elim hq

theorem pe_call (F : FnOk X.prog X.w X.K X.mg X.base CX k f fd ps sp) (hr : Room k X.A) (hg : Gl X x) (hm : X.mg x = some (.ref f)) (hk : PySem.W.keepIn X.K (.ref f) = true) (hb : Binds X.K fd ps ds) (hd : Vals dvs ds) (hx : Passes CX X E)
    (ha : PA X (e :: es) t) (hdb : (x == ("__debug__" : Str)) = false := by decide) (he : starEach (e :: es) X.env = (false, eval e X.env) :: starEach es X.env := by rfl) (hpl : (backTo pos (starEach es X.env)).any (·.1) = false := by rfl) :
    PE X (.Call (.Name x p) (e :: es) [] pos) (tCall sp dvs E t) := by
  intro pins s σ H Q I h
  refine wpAny_Call_Name_kw (ld_glob I hg hm ?_ hdb)
  refine PySem.W.callWith_K (h₀ := X.base) I.ok.mod.kin hk (thn (ha pos pins s σ H _ I h) fun us s1 ⟨vs, H1, I1, r, q⟩ => ⟨I1.kIn, ?_⟩) he hpl
  exact run_fn F hr hb hd hx I1 r q
end
structure FnScope (N P : List Str) (sc : Scope) : Prop where
  kind : sc.kind = .function
  co : sc.isCoroutine = false
  gen : sc.isGenerator = false
  nd : N.Nodup
  pre : N.take P.length = P
  par : ∀ x ∈ P, sc.names.lookup x = some .local ∨ sc.names.lookup x = some .cell
  nofree : ∀ y ∈ sc.names, y.2 ≠ .free

theorem bindL_out {kindOf : Str → Option NameKind} {x : Str} : ∀ {binds : List (Str × Value)} {m : Str → Option Value}, (∀ v, (x, v) ∉ binds) → bindL kindOf binds m x = m x
  | [], _, _ => rfl
  | (n, v) :: r, m, h => by
    unfold bindL
    rw [bindL_out fun w hw => h w (List.mem_cons_of_mem _ hw)]
    split
    · have : x ≠ n := by rintro rfl; exact h v List.mem_cons_self
      simp [this]
    · rfl
theorem bindC_out {kindOf : Str → Option NameKind} {x : Str} : ∀ {binds : List (Str × Value)} {m : Str → Option Value}, (∀ v, (x, v) ∉ binds) → bindC kindOf binds m x = m x
  | [], _, _ => rfl
  | (n, v) :: r, m, h => by
    unfold bindC
    rw [bindC_out fun w hw => h w (List.mem_cons_of_mem _ hw)]
    split
    · rfl
    · have : x ≠ n := by rintro rfl; exact h v List.mem_cons_self
      simp [this]
theorem bindL_get {kindOf : Str → Option NameKind} {x : Str} {v : Value} : ∀ {P : List Str} {vs : List Value} {i : Nat} {m : Str → Option Value}, P.Nodup → P[i]? = some x → vs[i]? = some v → kindOf x = some .local →
    bindL kindOf (P.zip vs) m x = some v
  | [], _, _, _, _, h, _, _ => by simp at h
  | _ :: _, [], _, _, _, _, h, _ => by simp at h
  | p :: P, w :: vs, 0, m, nd, h1, h2, hk => by
    simp at h1 h2; subst h1; subst h2
    show bindL kindOf ((p, w) :: P.zip vs) m p = _
    unfold bindL
    rw [bindL_out fun v hv => (List.nodup_cons.mp nd).1 (List.of_mem_zip hv).1, if_pos hk]
    simp
  | p :: P, w :: vs, i + 1, m, nd, h1, h2, hk => by
    show bindL kindOf ((p, w) :: P.zip vs) m x = _
    unfold bindL
    exact bindL_get (i := i) (List.nodup_cons.mp nd).2 (by simpa using h1) (by simpa using h2) hk
theorem bindC_get {kindOf : Str → Option NameKind} {x : Str} {v : Value} : ∀ {P : List Str} {vs : List Value} {i : Nat} {m : Str → Option Value}, P.Nodup → P[i]? = some x → vs[i]? = some v → kindOf x ≠ some .local →
    bindC kindOf (P.zip vs) m x = some v
  | [], _, _, _, _, h, _, _ => by simp at h
  | _ :: _, [], _, _, _, _, h, _ => by simp at h
  | p :: P, w :: vs, 0, m, nd, h1, h2, hk => by
    simp at h1 h2; subst h1; subst h2
    show bindC kindOf ((p, w) :: P.zip vs) m p = _
    unfold bindC
    rw [bindC_out fun v hv => (List.nodup_cons.mp nd).1 (List.of_mem_zip hv).1, if_neg hk]
    simp
  | p :: P, w :: vs, i + 1, m, nd, h1, h2, hk => by
    show bindC kindOf ((p, w) :: P.zip vs) m x = _
    unfold bindC
    exact bindC_get (i := i) (List.nodup_cons.mp nd).2 (by simpa using h1) (by simpa using h2) hk

def start (N : List Str) (vs : List V) : St := vs.map some ++ List.replicate (N.length - vs.length) none

def cxOf (CX : CXT) (P : Program) (w : World) (K : PySem.W.Frag) (mg : Str → Option Value) (base : Heap) (N : List Str) (qual : Str) (scope : Scope) (f : Addr) (cd : Value) (A : Around) (outer : List Env) (s : Shared) (H : Hp) (E : XK) : Cx where
  prog := P
  w := w
  K := K
  mg := mg
  base := base
  A := A.deeper (envOfC qual scope s.heap.objs.size f cd)
  N := N
  s₀ := s
  H₀ := H
  env := envOfC qual scope s.heap.objs.size f cd
  outer := outer
  stack := envOfC qual scope s.heap.objs.size f cd :: outer
  ex := []
  calm := true
  fn := fun _ => true
  pn := []
  xe := fun e s' => wpAny (model P w) (A.deeper (envOfC qual scope s.heap.objs.size f cd)) (leaving (envOfC qual scope s.heap.objs.size f cd) e) (fun _ s'' => CX outer H s E e s'') (fun e' s'' => CX outer H s E e' s'') s'

theorem cell_has {sc : Scope} {n : Nat} {x : Str} (h : sc.names.lookup x = some .cell) : ∃ c, (cellsFrom n sc.names []).lookup x = some c := by
  have q := PySem.W.cellsFrom_some sc.names n [] (.inl h)
  exact Option.isSome_iff_exists.mp q

theorem inv_start {CX : CXT} {P : Program} {w : World} {K : PySem.W.Frag} {mg : Str → Option Value} {base : Heap} {N ps : List Str} {qual : Str} {scope : Scope} {f : Addr} {cd : Value} {A : Around} {outer : List Env} {s s1 : Shared} {H : Hp} {E : XK} {us : List Value} {vs : List V}
    (S : FnScope N ps scope) (hd : A.handled = none) (e0 : Env0 P w K mg base A outer s H) (hl : vs.length = ps.length) (r : Vals vs us)
    (x : InCallC s s.heap.objs.size (bindL (envOfC qual scope s.heap.objs.size f cd).kindOf (ps.zip us) fun _ => none) (cellsFrom (s.heap.objs.size + 1) scope.names []) (bindC (envOfC qual scope s.heap.objs.size f cd).kindOf (ps.zip us) fun _ => none) s1) :
    Inv (cxOf CX P w K mg base N qual scope f cd A outer s H E) [] (start N vs) H s1 := by
  have hpl : ps.length ≤ N.length := by have := congrArg List.length S.pre; rw [List.length_take] at this; omega
  obtain ⟨h1, tk, rfl, hk⟩ := x.done
  have noA : ∀ b : Addr, b ∉ (cxOf CX P w K mg base N qual scope f cd A outer s H E).ex := fun b z => absurd (show b ∈ ([] : List Addr) from z) (by simp)
  refine ⟨⟨e0.mod, S.kind, rfl, rfl, Nat.le_refl _, fun y z c h1 h2 => ?_, fun y hy => ?_, fun y c _ h => ?_, fun _ => hd, Around.frames_deeper e0.frames, .inr ⟨rfl, rfl⟩, fun b z => absurd z (noA b), e0.bs, e0.bsz, fun b _ _ => noA b, fun b z => absurd z (noA b), e0.funs, e0.frf⟩,
    rfl, e0.bare, Un.kept hk, ⟨_, x.toInCall.ns, fun i y v h1 h2 h3 => ?_⟩, fun y c h => ⟨_, x.cell y c h⟩, e0.hok.fresh (Nat.le_refl _), fun y c h => ?_, fun p hp => absurd (show p ∈ ([] : List (Addr × Obj)) from hp) (by simp), e0.hok.kept hk, ?_⟩
  · exact name_of_addr x.apart (PySem.mem_of_lookup h1) (PySem.mem_of_lookup h2)
  · have hy : scope.names.lookup y = some .cell ∨ scope.names.lookup y = some .free := hy
    rcases hy with hy | hy
    · exact cell_has hy
    · exact absurd rfl (S.nofree _ (PySem.mem_of_lookup hy))
  · exact Nat.le_of_lt (x.above y c (PySem.mem_of_lookup h))
  · have hi : i < vs.length := by
      unfold start at h2
      by_cases hi : i < vs.length
      · exact hi
      · rw [List.getElem?_append_right (by simpa using hi)] at h2
        rw [List.getElem?_replicate] at h2
        split at h2 <;> cases h2
    have ha : vs[i]? = some v := by
      unfold start at h2
      rw [List.getElem?_append_left (by simpa using hi), List.getElem?_map] at h2
      cases e : vs[i]? with
      | none => rw [e] at h2; cases h2
      | some a => rw [e] at h2; cases h2; rfl
    obtain ⟨u, hu, rv⟩ := r.get ha
    have hp : ps[i]? = some y := by
      rw [← S.pre, List.getElem?_take_of_lt (by omega)]; exact h1
    have ndP : ps.Nodup := by rw [← S.pre]; exact S.nd.sublist (List.take_sublist _ _)
    refine ⟨u, rv, ?_⟩
    rcases S.par y (List.mem_of_getElem? hp) with k | k
    · exact .inl ⟨k, bindL_get ndP hp hu k⟩
    · obtain ⟨c, e⟩ := cell_has (n := s.heap.objs.size + 1) k
      refine .inr ⟨.inl k, c, e, ?_⟩
      have q := x.cell y c e
      rw [bindC_get ndP hp hu (by show scope.names.lookup y ≠ _; rw [k]; decide)] at q
      exact q
  · exact e0.hok.fresh (Nat.le_of_lt (x.above y c (PySem.mem_of_lookup h)))
  · unfold start
    show _ = N.length
    rw [List.length_append, List.length_map, List.length_replicate]
    omega

theorem fn_of {CX : CXT} {P : Program} {w : World} {K : PySem.W.Frag} {mg : Str → Option Value} {base : Heap} {k : Nat} {f : Addr} {name qual : Str} {params : Arguments} {body : List Stmt} {scope : Scope} {dV kV doc pm cdv ct oc : Value} {an od : Option Addr}
    {osl : Array (Option Value)} {N ps : List Str} {sp : Sp} (lk : K.lookup f = some ⟨oc, od, .func (PySem.W.fnOf name qual params body scope dV kV doc pm an cdv ct), osl⟩) (hcd : PySem.W.codeIn K cdv qual = true) (S : FnScope N ps scope)
    (len : ∀ vs H Q E, sp vs H Q E → vs.length = ps.length)
    (hbody : ∀ (A : Around) (outer : List Env) (s : Shared) (H : Hp) (vs : List V) (Q : VK) (E : XK), Room k (A.deeper (envOfC qual scope s.heap.objs.size f cdv)) → sp vs H Q E →
      ∃ t, PSs (cxOf CX P w K mg base N qual scope f cdv A outer s H E) body t ∧ t { nx := fun _ H' => Q .non H', rt := Q } (start N vs) H) :
    FnOk P w K mg base CX (k + 1) f (PySem.W.fnOf name qual params body scope dV kV doc pm an cdv ct) ps sp := by
  refine ⟨len, fun A outer s H args us vs Q E hr e0 hb r hsp => ?_⟩
  have hl := len _ _ _ _ hsp
  have KX : K.In s.heap := e0.mod.kin.keeps fun b o e => (e0.bs b o e).1
  have lim : s.heap.NoLimit := e0.mod.nolimit.keeps fun b o e => (e0.bs b o e).1
  have hkind : ∀ y ∈ ps.zip us, scope.names.lookup y.1 = some .local ∨ (scope.names.lookup y.1 = some .cell ∧ ((cellsFrom (s.heap.objs.size + 1) scope.names []).lookup y.1).isSome = true) := fun ⟨n, v⟩ hy => by
    rcases S.par n (List.of_mem_zip hy).1 with q | q
    · exact .inl q
    · exact .inr ⟨q, PySem.W.cellsFrom_some _ _ _ (.inl q)⟩
  refine codeAny_call_function hr.depth (KX _ _ lk) rfl S.co S.gen rfl (PySem.W.codeRec_of KX hcd) (hb _ _ _ _ ?_)
  refine wpAny_newFunctionEnv_cells S.kind hkind fun env he s1 x => ?_
  subst he
  refine ⟨lim.keeps x.toInCall.keep, codeAny_func ?_⟩
  obtain ⟨t, ht, hq⟩ := hbody A outer s H vs Q E (hr.deeper _) hsp
  have I : Inv (cxOf CX P w K mg base N qual scope f cdv A outer s H E) [] (start N vs) H s1 := inv_start S hr.hd e0 hl r x
  refine wpAny_mono (ht [] s1 (start N vs) H _ I hq) (fun fl s' hs => ?_) fun e s' hs => hs
  have fin : ∀ {σ' : St} {H' : Hp} {v : V} {u : Value}, Inv (cxOf CX P w K mg base N qual scope f cdv A outer s H E) [] σ' H' s' → RelV v u → Q v H' → CE outer P w H s Q u s' :=
    fun {σ' H' v u} J rv q => ⟨v, H', J.os, J.bare, J.base, J.hok, rv, q⟩
  cases fl with
  | ret u =>
    obtain ⟨v, σ', H', J, rv, q⟩ := hs
    exact fin J rv q
  | next =>
    obtain ⟨σ', H', J, q⟩ := hs
    exact fin (v := V.non) (u := Value.none) J rfl q
  | brk =>
    obtain ⟨_, _, _, q⟩ := hs
    exact False.elim q
  | cont =>
    obtain ⟨_, _, _, q⟩ := hs
    exact False.elim q
end L2
namespace L2
open PySem PySem.Spec PyProof.Rows
section
variable {X : Cx} {x : Str} {p pos : Pos} {e : Expr} {es : List Expr} {t : TA} {id T : String} {r : List V → Hp → VK → Prop}
def tCB (r : List V → Hp → VK → Prop) (t : TA) : TE := fun σ H Q => t σ H fun vs H1 => r vs H1 Q
theorem pe_callB (hc : CallR X (.builtin id) r) (hg : Gl X x) (hm : X.mg x = none) (hv : bootBuiltins x = some (.builtin id)) (ha : PA X (e :: es) t) (hn : x ≠ "__name__" := by decide) (hdb : (x == ("__debug__" : Str)) = false := by decide)
    (he : starEach (e :: es) X.env = (false, eval e X.env) :: starEach es X.env := by rfl) (hpl : (backTo pos (starEach es X.env)).any (·.1) = false := by rfl) : PE X (.Call (.Name x p) (e :: es) [] pos) (tCB r t) := by
  intro pins s σ H Q I h
  refine wpAny_Call_Name_kw (ld_blt I hg hm hv ?_ hn hdb)
  exact PyProof.Rows.callWith_builtin1 (thn (ha pos pins s σ H _ I h) fun us s1 ⟨vs, H1, I1, r1, q1⟩ => hc pins s1 σ H1 vs us Q I1 r1 q1) he hpl
end
end L2
namespace HT
open PySem PyProof.Rows
section
variable {prog : Program} {w : World} {A : Around} {E : Value → Shared → Prop} {s : Shared}
theorem cat_tup {t b : Addr} {vs ws : List Value} {Q : Value → Shared → Prop} (ht : IsTup s.heap t vs.toArray) (hb : IsTup s.heap b ws.toArray) (hv : vs ≠ [])
    (h1 : ws = [] → Q (.ref t) s) (h2 : ws ≠ [] → Q (.ref s.heap.objs.size) { s with heap := s.heap.push { cls := .type "tuple", data := .seq (vs ++ ws).toArray } })
    (hsz : vs.length + ws.length ≤ sizeLine) : wpAny (model prog w) A (binaryOp .Add (.ref t) (.ref b)) Q E s := by
  obtain ⟨⟨cls, dd, data, sl⟩, ho, hc, n, hd⟩ := id ht
  obtain ⟨⟨cls2, dd2, data2, sl2⟩, ho2, hc2, n2, hd2⟩ := id hb
  simp only at hc hd hc2 hd2
  subst hc hd hc2 hd2
  have e : vs.toArray ++ ws.toArray = (vs ++ ws).toArray := by simp
  by_cases hw : ws = []
  · exact concat_meets ⟨_, ho, rfl⟩ ⟨_, ho2, rfl⟩ noFill_tuple_add seq_tuple_add PySem.F.slot_tuple_add PySem.F.entry_tuple_add (PySem.F.args_tuple_add_2 _ _)
      (tuple_addW1 t b vs.toArray ws.toArray n n2 dd dd2 sl sl2 (by simpa using hv) (by simp [hw])) ⟨ho, ho2, h1 hw⟩
  · refine concat_meets ⟨_, ho, rfl⟩ ⟨_, ho2, rfl⟩ noFill_tuple_add seq_tuple_add PySem.F.slot_tuple_add PySem.F.entry_tuple_add (PySem.F.args_tuple_add_2 _ _)
      (tuple_addW2 t b vs.toArray ws.toArray n n2 dd dd2 sl sl2 (by simpa using hv) (by simpa using hw) (by rw [List.size_toArray, List.size_toArray]; exact hsz)) ⟨ho, ho2, ?_⟩
    rw [e]
    exact h2 hw

def sIx (n d : Nat) : Option Int → Nat
  | none => d
  | some v => if v < 0 then (v + (n : Int)).toNat else min v.toNat n
theorem sIx_none (n d : Nat) : sIx n d none = d := rfl
theorem sIx_nat (n d k : Nat) : sIx n d (some (k : Int)) = min k n := by
  show (if (k : Int) < 0 then ((k : Int) + (n : Int)).toNat else min (k : Int).toNat n) = min k n
  rw [if_neg (by omega), Int.toNat_natCast]
theorem sIx_le (n d : Nat) (hd : d ≤ n) (o : Option Int) : sIx n d o ≤ n := by
  cases o with
  | none => exact hd
  | some v =>
    show (if v < 0 then (v + (n : Int)).toNat else min v.toNat n) ≤ n
    by_cases hv : v < 0
    · rw [if_pos hv]; omega
    · rw [if_neg hv]; exact Nat.min_le_right _ _
theorem clip_eq (v : Int) (n d : Nat) : (if v < 0 then max (v + (n : Int)) 0 else min v (n : Int)) = ((sIx n d (some v) : Nat) : Int) := by
  show (if v < 0 then max (v + (n : Int)) 0 else min v (n : Int)) = (((if v < 0 then (v + (n : Int)).toNat else min v.toNat n) : Nat) : Int)
  by_cases hv : v < 0
  · simp only [if_pos hv]; omega
  · simp only [if_neg hv]; omega
theorem adjust_gen (lo hi : Option Int) (n : Nat) : Builtin.Slice.sliceAdjust lo hi 1 (n : Int) = (((sIx n 0 lo : Nat) : Int), ((sIx n n hi : Nat) : Int)) := by
  have h1 : ¬ ((1 : Int) < 0) := by omega
  unfold Builtin.Slice.sliceAdjust
  simp only [h1, if_false]
  refine Prod.ext ?_ ?_
  · cases lo with
    | none => rfl
    | some v => exact clip_eq v n 0
  · cases hi with
    | none => rfl
    | some v => exact clip_eq v n n
theorem places_gen (i j : Nat) : Builtin.Slice.slicePlaces (i : Int) (j : Int) 1 = j - i := by
  unfold Builtin.Slice.slicePlaces
  have h1 : (1 : Int) > 0 := by omega
  simp only [h1, if_true, Int.ediv_one]
  split <;> omega
theorem slicePart_ {v : Value} {o : Option Int} {Q : Option Int → Shared → Prop} (p : IsPart v o) (h : Q o s) : wpAny (model prog w) A (Builtin.Slice.slicePartIndex v) Q E s := by
  cases p with
  | none => exact slicePart_none h
  | int i t => exact slicePart_int h
theorem sliceApplied_gen {sl : Addr} {vl vu : Value} {lo hi : Option Int} {n : Nat} {Q : Int × Int × Nat → Shared → Prop} (hs : s.heap.IsSliceOf sl vl vu .none) (pl : IsPart vl lo) (pu : IsPart vu hi)
    (h : Q (((sIx n 0 lo : Nat) : Int), 1, sIx n n hi - sIx n 0 lo) s) : wpAny (model prog w) A (Builtin.Slice.sliceApplied (.ref sl) (pure (n : Int))) Q E s := by
  obtain ⟨os, hos, hcs, hds⟩ := id hs
  unfold Builtin.Slice.sliceApplied Builtin.Slice.sliceFields
  refine wpAny_bind (wpAny_bind (wpAny_field hos hds (x := vl) rfl (wpAny_bind (wpAny_field hos hds (x := vu) rfl (wpAny_bind (wpAny_field hos hds (x := .none) rfl (wpAny_pure ?_)))))))
  refine wpAny_bind (slicePart_none ?_)
  show wpAny _ _ (if ((1 : Int) == 0) = true then _ else _) _ _ s
  rw [if_neg (by decide)]
  refine wpAny_bind (slicePart_ pl (wpAny_bind (slicePart_ pu (wpAny_bind (wpAny_pure ?_)))))
  show wpAny _ _ (match Builtin.Slice.sliceAdjust lo hi 1 (n : Int) with | (lo, hi) => pure (lo, (1 : Int), Builtin.Slice.slicePlaces lo hi 1)) _ _ s
  rw [adjust_gen lo hi n]
  show wpAny _ _ (pure (((sIx n 0 lo : Nat) : Int), (1 : Int), Builtin.Slice.slicePlaces ((sIx n 0 lo : Nat) : Int) ((sIx n n hi : Nat) : Int) 1)) _ _ s
  rw [places_gen]
  exact wpAny_pure h
theorem pick_gen (xs : Array Value) (i k : Nat) : ((List.range k).filterMap fun (m : Nat) => xs[((i : Int) + (m : Int) * 1).toNat]?).toArray = ((xs.toList.drop i).take k).toArray := by
  have e : (fun (m : Nat) => xs[((i : Int) + (m : Int) * 1).toNat]?) = fun m => xs[i + m]? := by
    funext m
    have : ((i : Int) + (m : Int) * 1).toNat = i + m := by omega
    rw [this]
  rw [e]
  have := pick_run xs i k
  rw [List.filterMap_map] at this
  have e2 : ((fun x => xs[x]?) ∘ fun x => i + x) = fun m => xs[i + m]? := rfl
  rw [e2] at this
  rw [this]

theorem getItem_tuple_cut {t sl : Addr} {items : Array Value} {vl vu : Value} {lo hi : Option Int} {Q : Value → Shared → Prop} (ht : IsTup s.heap t items) (hs : s.heap.IsSliceOf sl vl vu .none) (pl : IsPart vl lo) (pu : IsPart vu hi)
    (hw : ¬ (sIx items.size 0 lo = 0 ∧ sIx items.size items.size hi = items.size))
    (h : Q (.ref s.heap.objs.size) { s with heap := s.heap.push { cls := .type "tuple", data := .seq ((items.toList.drop (sIx items.size 0 lo)).take (sIx items.size items.size hi - sIx items.size 0 lo)).toArray } })
    (hsz : items.size ≤ sizeLine) : wpAny (model prog w) A (getItem (.ref t) (.ref sl)) Q E s := by
  have htake : sizeOk (.seq ((items.toList.drop (sIx items.size 0 lo)).take (sIx items.size items.size hi - sIx items.size 0 lo)).toArray) := by
    show ((items.toList.drop (sIx items.size 0 lo)).take (sIx items.size items.size hi - sIx items.size 0 lo)).toArray.size ≤ sizeLine
    rw [List.size_toArray, List.length_take, List.length_drop, Array.length_toList]
    omega
  have hj : sIx items.size items.size hi ≤ items.size := sIx_le _ _ (Nat.le_refl _) hi
  obtain ⟨os, hos, hcs, hds⟩ := id hs
  have hTs : s.TypeIs (.ref sl) "slice" := ⟨os, hos, hcs⟩
  unfold getItem
  try with_reducible refine wpAny_holding ?_
  first | refine wpAny_bind (wpAny_pure ?_) | skip
  refine wpAny_bind (wpAny_sequenceKey ht.typeIs (by decide) ?_)
  refine wpAny_bind (wpAny_callSpecial?_slot (name := Str.ofString "__getitem__") ht.typeIs PyProof.Rows.slot_tuple_getitem
    (wpAny_call_entry PyProof.Rows.slot_tuple_getitem ht.typeIs entry_tuple_getitem ?_ (args_tuple_getitem _ _)))
  show wpAny _ _ (Builtin.Tuple.tupleItemsOf (.ref t) >>= _) _ _ s
  refine wpAny_bind (tupleItemsOf_ ht ?_)
  refine wpAny_bind (wpAny_typeOf hTs ?_)
  rw [if_pos (by decide)]
  refine wpAny_bind (sliceApplied_gen hs pl pu ?_)
  have hno : ¬ ((((sIx items.size 0 lo : Nat) : Int) == 0 && (1 : Int) == 1 && (sIx items.size items.size hi - sIx items.size 0 lo) == items.size) = true) := by
    intro q
    rw [Bool.and_eq_true, Bool.and_eq_true] at q
    have q1 : ((sIx items.size 0 lo : Nat) : Int) = 0 := eq_of_beq q.1.1
    have q2 : sIx items.size items.size hi - sIx items.size 0 lo = items.size := eq_of_beq q.2
    exact hw ⟨by omega, by omega⟩
  show wpAny _ _ (if (((sIx items.size 0 lo : Nat) : Int) == 0 && (1 : Int) == 1 && (sIx items.size items.size hi - sIx items.size 0 lo) == items.size) = true then _ else _) _ _ s
  rw [if_neg hno, pick_gen]
  first
    | exact wpAny_bind (m := Builtin.Tuple.tupleExact _) (wpAny_newObj_type (wpAny_pure ⟨_, rfl, wpAny_pure h⟩) htake)
    | exact wpAny_bind (m := Builtin.Tuple.tupleExact _) (wpAny_newObj_type (wpAny_bind (wpAny_pure (wpAny_pure ⟨_, rfl, wpAny_pure h⟩))) htake)
    | exact wpAny_bind (wpAny_bind (m := Builtin.Tuple.tupleExact _) (wpAny_newObj_type (wpAny_pure (wpAny_pure ⟨_, rfl, wpAny_pure h⟩)) htake))
    | exact wpAny_bind (wpAny_bind (m := Builtin.Tuple.tupleExact _) (wpAny_newObj_type (wpAny_pure ⟨_, rfl, wpAny_pure h⟩) htake))
end
end HT
namespace L2
open PySem PySem.Spec PyProof.Rows
abbrev TO := St → Hp → (Option Int → Hp → Prop) → Prop
def PO (X : Cx) (e : Option Expr) (t : TO) : Prop :=
  ∀ (pins : List (Addr × Obj)) (s : Shared) (σ : St) (H : Hp) (Q : Option Int → Hp → Prop), Inv X pins σ H s → t σ H Q →
    wpAny (model X.prog X.w) X.A (evalPart e X.env) (fun u s' => ∃ o H', Inv X pins σ H' s' ∧ IsPart u o ∧ Q o H') X.xe s
def tNoPart : TO := fun _ H Q => Q none H
def tPart (t : TE) : TO := fun σ H Q => t σ H fun x H1 => ∃ i, x = .int i ∧ Q (some i) H1

section
variable {X : Cx} {e : Expr} {te : TE} {lo hi : Option Expr} {tl th : TO} {pos p2 : Pos}
theorem po_none : PO X none tNoPart := by
  intro pins s σ H Q I h
  rw [evalPart_none]
  exact wpAny_pure ⟨none, H, I, .none, h⟩
theorem po_some (h : PE X e te) : PO X (some e) (tPart te) := by
  intro pins s σ H Q I hw
  rw [evalPart_some]
  refine thn (h pins s σ H _ I hw) fun u s1 ⟨x, H1, I1, r1, q1⟩ => ?_
  obtain ⟨i, rfl, q⟩ := q1
  obtain ⟨t, rfl⟩ := r1
  exact ⟨some i, H1, I1, .int i t, q⟩

def SlR (X : Cx) (r : V → Option Int → Option Int → Hp → VK → Prop) : Prop :=
  ∀ (pins : List (Addr × Obj)) (s : Shared) (σ : St) (H : Hp) (x : V) (v vl vu : Value) (lo hi : Option Int) (sl : Addr) (Q : VK), Inv X pins σ H s → RelV x v → s.heap.IsSliceOf sl vl vu .none → IsPart vl lo → IsPart vu hi → r x lo hi H Q →
    ∃ T id, typeLookup (.type T) "__getitem__" = pure (some (.builtin id)) ∧ s.TypeIs v T ∧ wpAny (model X.prog X.w) X.A (getItem v (.ref sl)) (EP X pins σ Q) X.xe s
theorem SlR.or {r r' : V → Option Int → Option Int → Hp → VK → Prop} (h : SlR X r) (h' : SlR X r') : SlR X (fun x lo hi H Q => r x lo hi H Q ∨ r' x lo hi H Q) := by
  intro pins s σ H x v vl vu lo hi sl Q I rx hs pl pu q
  rcases q with q | q
  · exact h pins s σ H x v vl vu lo hi sl Q I rx hs pl pu q
  · exact h' pins s σ H x v vl vu lo hi sl Q I rx hs pl pu q
def tSl (r : V → Option Int → Option Int → Hp → VK → Prop) (te : TE) (tl th : TO) : TE := fun σ H Q => te σ H fun x H1 => tl σ H1 fun l H2 => th σ H2 fun u H3 => r x l u H3 Q
theorem pe_slice {r : V → Option Int → Option Int → Hp → VK → Prop} (hr : SlR X r) (he : PE X e te) (hl : PO X lo tl) (hu : PO X hi th) : PE X (.Subscript e (.Slice lo hi none p2) pos) (tSl r te tl th) := by
  intro pins s σ H Q I h
  refine Subscript_ (thn (he pins s σ H _ I h) fun v s1 ⟨x, H1, I1, r1, q1⟩ => ?_)
  refine wpAny_Slice (thn (hl pins s1 σ H1 _ I1 q1) fun vl s2 ⟨l, H2, I2, pl, q2⟩ => thn (hu pins s2 σ H2 _ I2 q2) fun vu s3 ⟨u, H3, I3, pu, q3⟩ => ?_)
  rw [evalPart_none]
  refine wpAny_pure ?_
  have I4 : Inv X pins σ H3 { s3 with heap := s3.heap.push { cls := .type "slice", data := .fields #[vl, vu, .none] } } := I3.kept (t' := s3.toks) fun b ob q => Heap.get?_push_of_some _ q
  obtain ⟨T, id, hT, ht, hg⟩ := hr pins { s3 with heap := s3.heap.push { cls := .type "slice", data := .fields #[vl, vu, .none] } } σ H3 x v vl vu l u s3.heap.objs.size Q I4 r1 (Heap.IsSliceOf.new ..) pl pu q3
  show wpAny (model X.prog X.w) X.A (subscriptTail e (.Slice lo hi none p2) v (.ref s3.heap.objs.size)) (EP X pins σ Q) X.xe { s3 with heap := s3.heap.push { cls := .type "slice", data := .fields #[vl, vu, .none] } }
  exact tail_any (ops := [.ref s3.heap.objs.size, v]) ht hT hg (by with_unfolding_all rfl)

def cutV (xs : List V) (lo hi : Option Int) : List V := (xs.drop (HT.sIx xs.length 0 lo)).take (HT.sIx xs.length xs.length hi - HT.sIx xs.length 0 lo)
theorem cutV_length (xs : List V) (lo hi : Option Int) : (cutV xs lo hi).length ≤ xs.length := by
  unfold cutV
  rw [List.length_take, List.length_drop]
  omega
def rSlT (K : PySem.W.Frag) : V → Option Int → Option Int → Hp → VK → Prop := fun x lo hi H Q => ∃ a xs, x = .ref a ∧ SqT K H a xs ∧
  ¬ (HT.sIx xs.length 0 lo = 0 ∧ HT.sIx xs.length xs.length hi = xs.length) ∧ ∀ p, H p = none → Q (.ref p) (upd H p (.tup (cutV xs lo hi)))
theorem sl_tup : SlR X (rSlT X.K) := by
  intro pins s σ H x v vl vu lo hi sl Q I rx hs pl pu h
  obtain ⟨a, xs, rfl, hx, hw, q⟩ := h
  cases rx
  obtain ⟨its, r, ht, hz⟩ := I.tuple hx
  have hlen : its.toArray.size = xs.length := by rw [List.size_toArray]; exact r.length.symm
  refine ⟨"tuple", _, PyProof.Rows.slot_tuple_getitem.lookup, ht.typeIs, ?_⟩
  refine HT.getItem_tuple_cut ht hs pl pu (by rw [hlen]; exact hw) ?_ (by rw [hlen]; exact hz)
  rw [hlen]
  refine ⟨.ref s.heap.objs.size, _, I.laid (t' := s.toks) (o := .tup (cutV xs lo hi)) (fun b ob q => Heap.get?_push_of_some _ q) (Nat.le_refl _) ?_, rfl, q _ (I.hok.fresh (Nat.le_refl _))⟩
  exact ⟨Nat.le_trans (cutV_length xs lo hi) hz, _, (r.drop (HT.sIx xs.length 0 lo)).take (HT.sIx xs.length xs.length hi - HT.sIx xs.length 0 lo), IsTup.new _ _⟩

def rCatT (K : PySem.W.Frag) : R2 := fun x y H Q => ∃ a b xs ys, x = .ref a ∧ y = .ref b ∧ SqT K H a xs ∧ SqT K H b ys ∧ xs ≠ [] ∧ xs.length + ys.length ≤ sizeLine ∧
  (ys = [] → Q (.ref a) H) ∧ (ys ≠ [] → ∀ p, H p = none → Q (.ref p) (upd H p (.tup (xs ++ ys))))
theorem Vals.nil_iff {xs : List V} {us : List Value} (r : Vals xs us) : us = [] ↔ xs = [] := by
  cases r with
  | nil => simp
  | cons _ _ => simp
theorem op_catT : OpR X (binaryOp .Add) (rCatT X.K) := by
  intro pins s σ H x y v u Q I rx ry h
  obtain ⟨a, b, xs, ys, rfl, rfl, ha, hb, hx, hz, q1, q2⟩ := h
  cases rx
  cases ry
  obtain ⟨its, r1, p1, _⟩ := I.tuple ha
  obtain ⟨its2, r2, p2, _⟩ := I.tuple hb
  refine HT.cat_tup p1 p2 (fun z => hx (r1.nil_iff.mp z)) (fun z => ⟨.ref a, H, I, rfl, q1 (r2.nil_iff.mp z)⟩) (fun z => ?_) (by rw [← r1.length, ← r2.length]; exact hz)
  refine ⟨.ref s.heap.objs.size, _, I.laid (t' := s.toks) (o := .tup (xs ++ ys)) (fun b ob q => Heap.get?_push_of_some _ q) (Nat.le_refl _) ?_, rfl, q2 (fun w => z (r2.nil_iff.mpr w)) _ (I.hok.fresh (Nat.le_refl _))⟩
  exact ⟨by rw [List.length_append]; exact hz, _, r1.append r2, IsTup.new _ _⟩
end
end L2
namespace L2
open PySem PySem.Spec PyProof.Rows
def ixN (n : Nat) (i : Int) : Option Nat := if 0 ≤ i then (if i < n then some i.toNat else none) else if -(n : Int) ≤ i then some (i + n).toNat else none
def atI {α : Type} (xs : List α) (i : Int) : Option α := (ixN xs.length i).bind fun j => xs[j]?
theorem ixN_seq {n : Nat} {i : Int} {j : Nat} (h : ixN n i = some j) : seqIndex? i n = some j ∧ j < n ∧ -(n : Int) ≤ i ∧ i < n := by
  unfold ixN at h
  by_cases h0 : 0 ≤ i
  · rw [if_pos h0] at h
    by_cases h1 : i < n
    · rw [if_pos h1] at h
      have e : i.toNat = j := Option.some.inj h
      exact ⟨by rw [seqIndex_of h0 h1, e], by omega, by omega, h1⟩
    · rw [if_neg h1] at h; cases h
  · rw [if_neg h0] at h
    by_cases h1 : -(n : Int) ≤ i
    · rw [if_pos h1] at h
      have e : (i + n).toNat = j := Option.some.inj h
      exact ⟨by rw [seqIndex_neg (by omega) h1, e], by omega, h1, by omega⟩
    · rw [if_neg h1] at h; cases h
theorem atI_get {α : Type} {xs : List α} {i : Int} {v : α} (h : atI xs i = some v) : ∃ j, seqIndex? i xs.length = some j ∧ xs[j]? = some v ∧ j < xs.length ∧ -(xs.length : Int) ≤ i ∧ i < xs.length := by
  unfold atI at h
  cases e : ixN xs.length i with
  | none => rw [e] at h; cases h
  | some j =>
    rw [e] at h
    obtain ⟨h1, h2, h3, h4⟩ := ixN_seq e
    exact ⟨j, h1, h, h2, h3, h4⟩
theorem atI_nat {α : Type} {xs : List α} {j : Nat} {v : α} (h : xs[j]? = some v) : atI xs (j : Int) = some v := by
  have hj : j < xs.length := (List.getElem?_eq_some_iff.mp h).1
  have e : ixN xs.length (j : Int) = some j := by
    unfold ixN
    rw [if_pos (by omega), if_pos (by omega)]; simp
  unfold atI; rw [e]; exact h
def PlainIx (b : Expr) : Prop := ∀ o i, subscripted b false o i = operate [o, i] (getItem o i)
def IxR (X : Cx) (r : R2) : Prop :=
  ∀ (value slice : Expr) (pins : List (Addr × Obj)) (s : Shared) (σ : St) (H : Hp) (x y : V) (v u : Value) (Q : VK), Inv X pins σ H s → RelV x v → RelV y u → r x y H Q →
    subscripted slice false v u = operate [v, u] (getItem v u) → wpAny (model X.prog X.w) X.A (subscriptTail value slice v u) (EP X pins σ Q) X.xe s
section
variable {X : Cx} {a b : Expr} {ta tb : TE} {pos : Pos}
theorem IxR.or {r r' : R2} (h : IxR X r) (h' : IxR X r') : IxR X (fun x y H Q => r x y H Q ∨ r' x y H Q) := by
  intro value slice pins s σ H x y v u Q I rx ry q hs
  rcases q with q | q
  · exact h value slice pins s σ H x y v u Q I rx ry q hs
  · exact h' value slice pins s σ H x y v u Q I rx ry q hs
theorem pe_ix {r : R2} (hr : IxR X r) (ha : PE X a ta) (hb : PE X b tb) (hs : PlainIx b) : PE X (.Subscript a b pos) (tOp r ta tb) := by
  intro pins s σ H Q I h
  exact Subscript_ (binT ha hb I h fun v u s2 x y H2 I2 rx ry q => hr a b pins s2 σ H2 x y v u Q I2 rx ry q (hs _ _))

def rIxL (K : PySem.W.Frag) : R2 := fun x y H Q => ∃ p xs i v, x = .ref p ∧ y = .int i ∧ SqL K H p xs ∧ atI xs i = some v ∧ Q v H
def rIxT (K : PySem.W.Frag) : R2 := fun x y H Q => ∃ p xs i v, x = .ref p ∧ y = .int i ∧ SqT K H p xs ∧ atI xs i = some v ∧ Q v H
def rIxS : R2 := fun x y H Q => ∃ z i c, x = .str z ∧ y = .int i ∧ z.length ≤ sizeLine ∧ atI z.cps.toList i = some c ∧ Q (.str ⟨#[c]⟩) H
theorem ix_list : IxR X (rIxL X.K) := by
  intro value slice pins s σ H x y v u Q I rx ry h hs
  obtain ⟨p, xs, i, z, rfl, rfl, hq, he, q⟩ := h
  cases rx
  obtain ⟨t, rfl⟩ := ry
  obtain ⟨its, r, pl, hz⟩ := I.list hq
  obtain ⟨j, h1, h2, h3, h4, h5⟩ := atI_get he
  obtain ⟨w, ew, rw'⟩ := r.get h2
  have hl := r.length
  have hn := line63
  have fin : EP X pins σ Q w s := ⟨z, H, I, rw', q⟩
  by_cases h0 : 0 ≤ i
  · have hj : i.toNat = j := by
      rw [seqIndex_of h0 h5] at h1
      exact Option.some.inj h1
    exact item_listR pl.isList h0 (by omega) (by rw [hj]; simpa using ew) fin hs
  · have hj : (i + (its.toArray.size : Int)).toNat = j := by
      rw [seqIndex_neg (by omega) h4] at h1
      rw [List.size_toArray, ← hl]
      exact Option.some.inj h1
    exact subscriptTail_builtinR (x := w) pl.isList.typeIs slot_list_getitem.lookup
      (wpAny_getItem_list_neg (Q := fun r s' => r = w ∧ EP X pins σ Q r s') pl.isList (by omega) (by rw [List.size_toArray] <;> omega) (by omega) (by rw [hj]; simpa using ew) ⟨rfl, fin⟩) hs
theorem ix_tup : IxR X (rIxT X.K) := by
  intro value slice pins s σ H x y v u Q I rx ry h hs
  obtain ⟨p, xs, i, z, rfl, rfl, hq, he, q⟩ := h
  cases rx
  obtain ⟨t, rfl⟩ := ry
  obtain ⟨its, r, pl, hz⟩ := I.tuple hq
  obtain ⟨j, h1, h2, h3, h4, h5⟩ := atI_get he
  obtain ⟨w, ew, rw'⟩ := r.get h2
  have hl := r.length
  have hn := line63
  have fin : EP X pins σ Q w s := ⟨z, H, I, rw', q⟩
  exact subscriptTail_builtinR (x := w) pl.typeIs slot_tuple_getitem.lookup
    (getItem_tuple (j := j) (Q := fun r s' => r = w ∧ EP X pins σ Q r s') pl (by omega) (by omega) (by rw [List.size_toArray, ← hl]; exact h1) (by simpa using ew) ⟨rfl, fin⟩) hs
theorem ix_str : IxR X rIxS := by
  intro value slice pins s σ H x y v u Q I rx ry h hs
  obtain ⟨z, i, c, rfl, rfl, hz, he, q⟩ := h
  obtain ⟨t, rfl⟩ := rx
  obtain ⟨t', rfl⟩ := ry
  obtain ⟨j, h1, h2, h3, h4, h5⟩ := atI_get he
  have hl : z.cps.toList.length = z.length := by simp [Str.length]
  rw [hl] at h1 h4 h5
  have hn := line63
  exact tail_any (typeIs_str s z t) slot_str_getitem.lookup (getItem_str (c := c) (by
    have e1 : decide (i < -(2 ^ 63 : Int)) = false := decide_eq_false (by omega)
    have e2 : decide (i ≥ 2 ^ 63) = false := decide_eq_false (by omega)
    rw [e1, e2, Bool.or_false]) (by rw [h1]; simpa using h2) ⟨.str ⟨#[c]⟩, H, I.tok _, ⟨_, rfl⟩, q⟩) hs
def rIx (K : PySem.W.Frag) : R2 := fun x y H Q => rIxL K x y H Q ∨ rIxT K x y H Q ∨ rIxS x y H Q
theorem ix_seq : IxR X (rIx X.K) := ix_list.or (ix_tup.or ix_str)

theorem mapSeq_set (its : List Value) (n j : Nat) (u : Value) : Obj.mapSeq (·.setIfInBounds j u) { cls := .type "list", data := .seq its.toArray n } = { cls := .type "list", data := .seq (its.set j u).toArray n } := by
  simp [Obj.mapSeq]
theorem Inv.lst {pins : List (Addr × Obj)} {σ : St} {H : Hp} {s : Shared} {p : Addr} {xs : List V} (I : Inv X pins σ H s) (h : H p = some (.lst xs)) :
    ∃ (its : List Value) (n : Nat), Vals xs its ∧ s.heap.get? p = some { cls := .type "list", data := .seq its.toArray n } ∧ xs.length ≤ sizeLine := by
  obtain ⟨z, its, n, r, e⟩ := I.hok p _ h
  exact ⟨its, n, r, e, z⟩
theorem Inv.lstUpd {pins : List (Addr × Obj)} {σ : St} {H : Hp} {s : Shared} {p : Addr} {xs ys : List V} {its its' : List Value} {n n' : Nat} {f : Obj → Obj} (I : Inv X pins σ H s) (h : H p = some (.lst xs))
    (ho : s.heap.get? p = some { cls := .type "list", data := .seq its.toArray n }) (hf : f { cls := .type "list", data := .seq its.toArray n } = { cls := .type "list", data := .seq its'.toArray n' }) (r : Vals ys its') (hz : ys.length ≤ sizeLine) (t : Nat) :
    Inv X pins σ (upd H p (.lst ys)) { s with heap := s.heap.update p f, toks := t } := by
  have e : (s.heap.update p f).get? p = some { cls := .type "list", data := .seq its'.toArray n' } := by
    rw [Heap.get?_update_self f ho (by rw [hf] <;> rfl), hf]
  refine I.write (x := p) (e := p) (by rw [h]; trivial) (.inl rfl) (fun b u hb q => (Heap.get?_update_other _ _ (Ne.symm hb)).trans q) ⟨_, e⟩ ?_
  exact ⟨hz, its', n', r, e⟩
def rSetL : V → V → V → Hp → (Hp → Prop) → Prop := fun o i v H Q => ∃ p xs k j, o = .ref p ∧ i = .int k ∧ H p = some (.lst xs) ∧ ixN xs.length k = some j ∧ Q (upd H p (.lst (xs.set j v)))
theorem set_list : PSet X rSetL := by
  intro pins s σ H o i v ov iv u Q I ro ri rv h
  obtain ⟨p, xs, k, j, rfl, rfl, hp, hj, q⟩ := h
  cases ro
  obtain ⟨t, rfl⟩ := ri
  obtain ⟨its, n, r, ho, hz⟩ := I.lst hp
  obtain ⟨h1, h2, h3, h4⟩ := ixN_seq hj
  have hl := r.length
  have hn := line63
  have I' : Inv X pins σ (upd H p (.lst (xs.set j v))) { s with heap := s.heap.update p (Obj.mapSeq (·.setIfInBounds j u)) } :=
    I.lstUpd hp ho (mapSeq_set its n j u) (r.set rv j) (by rw [List.length_set]; exact hz) s.toks
  by_cases h0 : 0 ≤ k
  · have hk : k.toNat = j := by
      rw [seqIndex_of h0 h4] at h1
      exact Option.some.inj h1
    exact PySem.W.ki_setAt ho h0 (by omega) (by rw [List.size_toArray, ← hl]; exact h4) (by rw [hk]; exact ⟨_, I', q⟩)
  · have hk : (k + (its.toArray.size : Int)).toNat = j := by
      rw [seqIndex_neg (by omega) h3] at h1
      rw [List.size_toArray, ← hl]
      exact Option.some.inj h1
    exact PySem.W.ki_setBack ho (by omega) (by rw [List.size_toArray, ← hl]; exact h3) (by omega) (by rw [hk]; exact ⟨_, I', q⟩)

theorem slice_bounds (lo hi : Option Int) (n : Nat) : (sliceBounds lo hi none n).1 = ((HT.sIx n 0 lo : Nat) : Int) ∧ (sliceBounds lo hi none n).2.1 = ((HT.sIx n n hi : Nat) : Int) ∧ (sliceBounds lo hi none n).2.2 = 1 := by
  refine ⟨?_, ?_, rfl⟩
  · cases lo with
    | none => simp [sliceBounds, HT.sIx]
    | some i =>
      simp only [sliceBounds, HT.sIx, Option.getD_none, show (1 : Int) > 0 by decide, if_true]
      by_cases h : i < 0
      · simp only [h, if_true] <;> omega
      · simp only [h, if_false] <;> omega
  · cases hi with
    | none => simp [sliceBounds, HT.sIx]
    | some i =>
      simp only [sliceBounds, HT.sIx, Option.getD_none, show (1 : Int) > 0 by decide, if_true]
      by_cases h : i < 0
      · simp only [h, if_true] <;> omega
      · simp only [h, if_false] <;> omega
theorem slicePick_cut (its : List Value) (lo hi : Option Int) : slicePick its.toArray lo hi none = ((its.drop (HT.sIx its.length 0 lo)).take (HT.sIx its.length its.length hi - HT.sIx its.length 0 lo)).toArray := by
  obtain ⟨h1, h2, h3⟩ := slice_bounds lo hi its.toArray.size
  unfold slicePick
  rw [h1, h2, h3]
  simp only [sliceRange_one, pick_run, List.size_toArray] <;> rfl
def rSlL (K : PySem.W.Frag) : V → Option Int → Option Int → Hp → VK → Prop := fun x lo hi H Q => ∃ a xs, x = .ref a ∧ SqL K H a xs ∧ ∀ p, H p = none → Q (.ref p) (upd H p (.lst (cutV xs lo hi)))
theorem sl_list : SlR X (rSlL X.K) := by
  intro pins s σ H x v vl vu lo hi sl Q I rx hs pl pu h
  obtain ⟨a, xs, rfl, hx, q⟩ := h
  cases rx
  obtain ⟨its, r, ht, hz⟩ := I.list hx
  have hlen := r.length
  refine ⟨"list", _, slot_list_getitem.lookup, ht.isList.typeIs, ?_⟩
  refine wpAny_getItem_list_slice ht.isList hs pl pu .none (by simp) ?_ (by rw [List.size_toArray] <;> omega)
  rw [slicePick_cut, ← hlen]
  refine ⟨.ref s.heap.objs.size, _, I.laid (t' := s.toks) (o := .lst (cutV xs lo hi)) (fun b ob q => Heap.get?_push_of_some _ q) (Nat.le_refl _) ?_, rfl, q _ (I.hok.fresh (Nat.le_refl _))⟩
  exact ⟨Nat.le_trans (cutV_length xs lo hi) hz, _, 0, (r.drop (HT.sIx xs.length 0 lo)).take (HT.sIx xs.length xs.length hi - HT.sIx xs.length 0 lo), Heap.get?_push_size _ rfl⟩

theorem call_len_seq : CallR X (.builtin "len") (fun xs H Q => ∃ p ys, xs = [.ref p] ∧ (SqL X.K H p ys ∨ SqT X.K H p ys) ∧ Q (.int ys.length) H) := by
  intro pins s σ H xs us Q I r h
  obtain ⟨p, ys, rfl, hq, q⟩ := h
  obtain ⟨u, rfl, rx⟩ := vals1 r
  cases rx
  have hn := line63
  rcases hq with hq | hq
  · obtain ⟨its, r', pl, hz⟩ := I.list hq
    have hlen := r'.length
    exact Calls.call_len_list pl.isList (by simp only [List.size_toArray] <;> omega) ⟨.int ys.length, H, I.tok _, ⟨s.toks + 1, by rw [List.size_toArray, hlen]⟩, q⟩
  · obtain ⟨its, r', pl, hz⟩ := I.tuple hq
    have hlen := r'.length
    exact len_tuple pl (by simp only [List.size_toArray] <;> omega) ⟨.int ys.length, H, I.tok _, ⟨s.toks + 1, by rw [List.size_toArray, hlen]⟩, q⟩
theorem call_len_str : CallR X (.builtin "len") (fun xs H Q => ∃ z, xs = [.str z] ∧ z.length ≤ sizeLine ∧ Q (.int z.length) H) := by
  intro pins s σ H xs us Q I r h
  obtain ⟨z, rfl, hz, q⟩ := h
  obtain ⟨u, rfl, t, rfl⟩ := vals1 r
  have hn := line63
  exact len_str (by omega) ⟨.int z.length, H, I.tok _, ⟨_, rfl⟩, q⟩
variable {o e : Expr} {es : List Expr} {to : TE} {t : TA} {name : Str} {apos cpos : Pos} {T id : String} {r : V → List V → Hp → VK → Prop}
end
end L2
namespace L2
open PySem PySem.Spec PyProof.Rows
def MtM (X : Cx) (id : String) (r : V → List V → Hp → VK → Prop) : Prop :=
  ∀ (pins : List (Addr × Obj)) (s : Shared) (σ : St) (H : Hp) (x : V) (xs : List V) (v : Value) (us : List Value) (Q : VK), Inv X pins σ H s → RelV x v → Vals xs us → r x xs H Q →
    wpAny (model X.prog X.w) X.A (call (.builtin id) (v :: us)) (EP X pins σ Q) X.xe s

theorem Vals.one : ∀ {x : V} {us : List Value}, Vals [x] us → ∃ u, us = [u] ∧ RelV x u
  | _, _, .cons r .nil => ⟨_, rfl, r⟩
theorem Vals.rep {xs : List V} {us : List Value} (h : Vals xs us) : ∀ k : Nat, Vals (List.replicate k xs).flatten (List.replicate k us).flatten
  | 0 => .nil
  | k + 1 => by
    rw [List.replicate_succ, List.replicate_succ, List.flatten_cons, List.flatten_cons]
    exact Vals.append h (Vals.rep h k)
theorem foldl_rep (its : List Value) : ∀ (k : Nat) (acc : List Value),
    List.foldl (fun x1 x2 => x1 ++ x2) acc.toArray (List.replicate k its.toArray) = (acc ++ (List.replicate k its).flatten).toArray
  | 0, acc => by simp
  | k + 1, acc => by
    have e : acc.toArray ++ its.toArray = (acc ++ its).toArray := by simp
    have e2 : (acc ++ its) ++ (List.replicate k its).flatten = acc ++ (List.replicate (k + 1) its).flatten := by
      rw [List.replicate_succ, List.flatten_cons, List.append_assoc]
    rw [← e2, ← foldl_rep its k (acc ++ its), ← e, List.replicate_succ, List.foldl_cons]

section
variable {X : Cx} {pins : List (Addr × Obj)} {σ : St} {H : Hp} {s : Shared} {l b : Addr} {xs ys zs : List V}
theorem Inv.lset {its its' : List Value} {n : Nat} {f : Array Value → Array Value} {t' : Nat} (I : Inv X pins σ H s) (hH : H l = some (.lst xs))
    (e : s.heap.get? l = some { cls := .type "list", data := .seq its.toArray n }) (hf : f its.toArray = its'.toArray) (hv : Vals ys its') (hz : ys.length ≤ sizeLine) :
    Inv X pins σ (upd H l (.lst ys)) { s with heap := s.heap.update l (Obj.mapSeq f), toks := t' } := by
  have q := PySem.IsL.update e f
  rw [hf] at q
  refine I.write (x := l) (e := l) (by rw [hH]; exact trivial) (.inl rfl) (fun b' u hb hu => (Heap.get?_update_other s.heap (Obj.mapSeq f) (Ne.symm hb)).trans hu) ⟨_, q⟩ ?_
  exact ⟨hz, its', _, hv, q⟩
theorem Inv.lnew {its : List Value} {t' : Nat} (I : Inv X pins σ H s) (hv : Vals ys its) (hz : ys.length ≤ sizeLine) :
    Inv X pins σ (upd H s.heap.objs.size (.lst ys)) { s with heap := s.heap.push { cls := .type "list", data := .seq its.toArray }, toks := t' } :=
  I.laid (fun _ _ q => Heap.get?_push_of_some _ q) (Nat.le_refl _) ⟨hz, its, 0, hv, Heap.get?_push_size _ rfl⟩
theorem Inv.fresh (I : Inv X pins σ H s) : H s.heap.objs.size = none := I.hok.fresh (Nat.le_refl _)
theorem Inv.lstM (I : Inv X pins σ H s) (hH : H l = some (.lst xs)) : xs.length ≤ sizeLine ∧ ∃ (its : List Value) (n : Nat), Vals xs its ∧ xs.length = its.length ∧ s.heap.get? l = some { cls := .type "list", data := .seq its.toArray n } := by
  obtain ⟨z, its, n, r, e⟩ := I.hok l _ hH
  exact ⟨z, its, n, r, r.length, e⟩

theorem notLongL {n : Nat} (h : n ≤ sizeLine) : Builtin.List.listTooLong n = false := by
  unfold Builtin.List.listTooLong
  exact decide_eq_false (by omega)
end
section
variable {X : Cx}
def rAppend : V → List V → Hp → VK → Prop := fun x vs H Q => ∃ l xs y, x = .ref l ∧ vs = [y] ∧ H l = some (.lst xs) ∧ xs.length < sizeLine ∧ Q .non (upd H l (.lst (xs ++ [y])))
theorem mt_append : MtM X "list.append" rAppend := by
  intro pins s σ H x vs v us Q I rx rv h
  obtain ⟨l, xs, y, rfl, rfl, hH, hz, q⟩ := h
  cases rx
  obtain ⟨u, rfl, ru⟩ := rv.one
  obtain ⟨z, its, n, r, hl, e⟩ := I.lstM hH
  refine call_meets F.slot_list_append ⟨_, e, rfl⟩ F.entry_list_append (F.args_list_append_2 _ _) (PySem.list_append l its.toArray n u (by rw [List.size_toArray]; omega)) ⟨e, ?_⟩
  refine ⟨.non, _, I.lset (its' := its ++ [u]) hH e (by simp) (r.append (.cons ru .nil)) ?_, rfl, q⟩
  rw [List.length_append, List.length_singleton]
  omega

def rCat : R2 := fun x y H Q => ∃ l b xs zs, x = .ref l ∧ y = .ref b ∧ H l = some (.lst xs) ∧ H b = some (.lst zs) ∧ xs.length + zs.length ≤ sizeLine ∧ ∀ p, H p = none → Q (.ref p) (upd H p (.lst (xs ++ zs)))
theorem op_cat : OpR X (binaryOp .Add) rCat := by
  intro pins s σ H x y v u Q I rx ry h
  obtain ⟨l, b, xs, zs, rfl, rfl, hH, hB, hz, q⟩ := h
  cases rx
  cases ry
  obtain ⟨z, its, n, r, hl, e⟩ := I.lstM hH
  obtain ⟨z2, its2, n2, r2, hl2, e2⟩ := I.lstM hB
  refine PySem.P.add_list e e2 ?_ (by rw [List.size_toArray, List.size_toArray]; omega)
  have ea : its.toArray ++ its2.toArray = (its ++ its2).toArray := by simp
  rw [ea]
  exact ⟨.ref _, _, I.lnew (t' := s.toks) (r.append r2) (by rw [List.length_append]; omega), rfl, q _ I.fresh⟩
def rRep : R2 := fun x y H Q => ∃ l k xs, x = .ref l ∧ y = .int k ∧ H l = some (.lst xs) ∧ -(2 ^ 63) ≤ k ∧ k < 2 ^ 63 ∧ xs.length * k.toNat ≤ sizeLine ∧
  ∀ p, H p = none → Q (.ref p) (upd H p (.lst (List.replicate k.toNat xs).flatten))
theorem len_rep {α : Type} (xs : List α) (k : Nat) : (List.replicate k xs).flatten.length = k * xs.length := by
  induction k with
  | zero => simp
  | succ k ih => rw [List.replicate_succ, List.flatten_cons, List.length_append, ih, Nat.succ_mul, Nat.add_comm]
theorem op_rep : OpR X (binaryOp .Mult) rRep := by
  intro pins s σ H x y v u Q I rx ry h
  obtain ⟨l, k, xs, rfl, rfl, hH, h1, h2, hz, q⟩ := h
  cases rx
  obtain ⟨t, rfl⟩ := ry
  obtain ⟨z, its, n, r, hl, e⟩ := I.lstM hH
  have hlen : its.toArray.size * k.toNat ≤ sizeLine := by rw [List.size_toArray, ← hl]; exact hz
  have hcap : ¬ its.toArray.size * k.toNat > (2 ^ 63 - 1) / 8 := by
    have : (sizeLine : Nat) ≤ (2 ^ 63 - 1) / 8 := by decide
    omega
  have hfit : ¬ (!Builtin.List.listFitsIndex k) = true := by
    rw [fitsIndex_both h1 h2]
    exact Bool.false_ne_true
  have hlong : ¬ Builtin.List.listTooLong (its.toArray.size * k.toNat) = true := by
    rw [notLongL hlen]
    exact Bool.false_ne_true
  have hnew : List.foldl (fun x1 x2 => x1 ++ x2) #[] (List.replicate (if its.toArray.isEmpty = true then 0 else k.toNat) its.toArray) = (List.replicate k.toNat its).flatten.toArray := by
    have f0 : ∀ m : Nat, List.foldl (fun x1 x2 => x1 ++ x2) #[] (List.replicate m its.toArray) = (List.replicate m its).flatten.toArray := fun m => by
      have := foldl_rep its m []
      rw [List.nil_append] at this
      exact this
    rw [f0]
    cases its with
    | nil => simp
    | cons a r' => rw [if_neg (by simp)]
  refine wpAny_binaryOp_repeat_ref (T := "list") (U := "int") (by decide) ⟨_, e, rfl⟩ (fun s' => typeIs_int s' k t) noFill_list_mul F.fills_int_mul F.slot_int_rmul repeat_list F.slot_int_index.lookup
    (call_meets F.slot_int_rmul (typeIs_int s k t) F.entry_int_rmul (F.args_int_rmul_2 _ _) (int___rmul___int_list k t l its.toArray n)
      ⟨e, rfl, ⟨_, e, rfl⟩, call_meets F.slot_list_mul ⟨_, e, rfl⟩ F.entry_list_mul (F.args_list_mul_2 _ _) (AutoListH.list___mul___list_int_3 l its.toArray n k t hfit hcap hlong) ⟨e, ?_⟩⟩)
  rw [hnew]
  exact ⟨.ref _, _, I.lnew (t' := s.toks) (r.rep k.toNat) (by rw [len_rep, Nat.mul_comm]; exact hz), rfl, q _ I.fresh⟩

end
end L2
namespace Att
open PySem PySem.W PySem.Calls PyProof.Rows
theorem ints_of_wellAll {P : Params} {h : Heap} : ∀ (ns : List Int) (vs : List Value), WellAll P h vs (ns.map WData.int) → IntsAre vs ns := by
  intro ns
  induction ns with
  | nil =>
    intro vs w
    rw [List.map_nil] at w
    cases w
    exact .nil
  | cons n ns ih =>
    intro vs w
    rw [List.map_cons] at w
    cases w with
    | cons a b =>
      cases a
      exact .cons _ _ (ih _ b)

theorem script_of {l : OpenLaw} {n : Nat} (hn : l.most = some n) {P : Params} {h : Heap} {args : List WData} {vals : List Value}
    (hpre : l.row.toRowW.claim.pre args = true) (hwl : WellAll P h vals args) :
    ∃ a vs ns, vals = [Value.ref a] ∧ args = [WData.list (ns.map WData.int)] ∧ h.get? a = some { cls := .type "list", data := .seq vs.toArray } ∧ IntsAre vs ns ∧ ns.length ≤ n := by
  have hsh : WShape.hasAll [] args [.list .int] = true := (pre_splitW hpre).1
  have hc : l.pre.holds [] { args := args } = true := (pre_splitW hpre).2
  obtain ⟨d, r, rfl, h1, h2⟩ := hasAllW_cons hsh
  obtain rfl := hasAllW_nil h2
  obtain ⟨xs, rfl, h3⟩ := hasW_list h1
  obtain ⟨ns, rfl⟩ := items_int h3
  have hlen : ns.length ≤ n := by
    unfold OpenLaw.pre at hc
    have h4 : (WTm.not (.lt (.lit (.int (n : Int))) (.len (.arg 0)))).holds [] { args := [.list (ns.map .int)] } = true := by
      have h4 := (holds_andW hc).1
      rw [hn] at h4
      exact h4
    have h5 := condW_of h4 (w_not (w_lt w_lit (w_len_list (w_arg rfl))))
    rw [List.length_map] at h5
    refine Nat.le_of_not_lt fun q => ?_
    have q' : (n : Int) < ((ns.length : Nat) : Int) := by omega
    first
      | (rw [decide_eq_true q'] at h5; exact absurd h5 (by decide))
      | (simp at h5; omega)
  cases hwl with
  | cons w1 w2 =>
    cases w2
    cases w1 with
    | list ho hall => exact ⟨_, _, ns, rfl, rfl, ho, ints_of_wellAll ns _ hall, hlen⟩

theorem post_true (l : OpenLaw) (args : List WData) : l.row.toRowW.claim.post args (.bool true) args = true :=
  postW_of (r := l.row.toRowW) (X := (true == true))
    (show WShape.has [] (.bool true) .bool = true by first | rfl | decide | simp [WShape.has, WShape.arms, WShape.armsAll])
    (show (WTm.eq .res (.lit (.bool true))).value [] { args := args, res := some (.bool true), after := args } = some (.bool (true == true)) from w_eq_bool (w_res rfl) w_lit) rfl

theorem attach_call {l : OpenLaw} {n : Nat} {q : Program} {loose : List Str} {XP : (Str → Option Value) → Heap → Prop} {YP : World → Heap → Prop} {d : DefRec}
    (hn : l.most = some n) (hdf : d.params.defaults = [])
    (call : ∀ (w : World) (s₀ s₁ : Shared) (mg mb : Str → Option Value) (fa : Addr) (o : Obj) (pm cd doc : Value) (a : Addr) (vs : List Value) (ns : List Int),
      Ground q loose [] XP w s₀ mg mb s₁.heap → YP w s₁.heap →
      s₁.heap.get? fa = some o → o.data = .func (docDef d.name d.params d.body d.scope pm cd doc) → s₁.heap.CodeRec cd d.name → mg d.name = some (.ref fa) →
      s₁.heap.get? a = some { cls := .type "list", data := .seq vs.toArray } → IntsAre vs ns → ns.length ≤ n → s₁.gens = #[] →
      codeAny (model l.prog w) callerA (.call (.ref fa) ⟨[.ref a], []⟩) (fun r s' => r = .ok (.ret (.bool true)) ∧ OldK s₁.heap s'.heap ∧ s'.os = s₁.os ∧ AllBare s'.gens) s₁) :
    WalkO q loose XP YP l.row.toRowW d [] (fun f vs => PySem.call f vs) := by
  intro w s₀ s₁ mg mb G Y fa o pm cd doc dV kV ho hd hcd hD hmg hg args vals as hpre hlay hrd hwl hlo
  obtain rfl : dV = .none := Dflts.none hD hdf
  obtain rfl : kV = .none := Dflts.noKw hD
  obtain ⟨a, vs, ns, rfl, rfl, hobj, hints, hlen⟩ := script_of hn hpre hwl
  refine enter_call (codeAny_mono (call w s₀ s₁ mg mb fa o pm cd doc a vs ns G Y ho (fd_plain hd) hcd hmg hobj hints hlen hg) fun r s' hq => ?_)
  obtain ⟨rfl, h2, h3, h4⟩ := hq
  exact ⟨.inl ⟨.bool true, .bool true, [], rfl, fun _ => rfl, .bool true, post_true l _, fun _ => ⟨List.Pairwise.nil, fun _ hm => (nomatch hm)⟩⟩, h2, h3, h4⟩

end Att
namespace L2
open PySem PySem.Spec PyProof.Rows
theorem vals_ints : ∀ {vs : List Value} {ns : List Int}, IntsAre vs ns → Vals (ns.map V.int) vs
  | _, _, .nil => .nil
  | _, _, .cons n t h => .cons ⟨t, rfl⟩ (vals_ints h)

def Only (H : Hp) : Prop := ∀ b, H b = none ∨ ∃ o xs, H b = some (.frz o (.lst xs))

theorem law_call {P : Program} {w : World} {K : PySem.W.Frag} {mg mb : Str → Option Value} {CX : CXT} {k : Nat} {fa a : Addr} {fd : FuncData} {x : Str} {sp : Sp} {s₁ : Shared} {vs : List Value} {ns : List Int}
    (KX : K.In s₁.heap) (hns : s₁.heap.Ns mainGlobals mg) (hb : s₁.heap.Ns builtinsNs mb) (hbb : ∀ x : Str, x ≠ "__name__" → mb x = bootBuiltins x) (hlim : s₁.heap.NoLimit) (hg : s₁.gens = #[])
    (ha : s₁.heap.get? a = some { cls := .type "list", data := .seq vs.toArray }) (hi : IntsAre vs ns) (hl : ns.length ≤ sizeLine) (hr : Room k callerA)
    (F : ∀ base : Heap, K.In base → base.Ns mainGlobals mg → FnOk P w K mg base CX k fa fd [x] sp) (hbind : ∀ (s : Shared) (u : Value), BindsTo s fd ⟨[u], []⟩ [(x, u)])
    (hsp : ∀ H : Hp, Only H → SqL K H a (ns.map V.int) → sp [.ref a] H (fun v _ => v = .bl true) fun _ _ _ => False)
    (hCX : ∀ H e s', CX [] H s₁ (fun _ _ _ => False) e s' → False) :
    codeAny (model P w) callerA (.call (.ref fa) ⟨[.ref a], []⟩) (fun r s' => r = .ok (.ret (.bool true)) ∧ OldK s₁.heap s'.heap ∧ s'.os = s₁.os ∧ AllBare s'.gens) s₁ := by
  have rv := vals_ints hi
  have lenV := hi.length
  -- from an abstract heap in which nothing but the script may be tracked
  have core : ∀ H : Hp, Only H → SqL K H a (ns.map V.int) → HOk P w H s₁.heap → (∀ b, H b ≠ none → b = a) → (H a ≠ none → K.lookup a = none) →
      codeAny (model P w) callerA (.call (.ref fa) ⟨[.ref a], []⟩) (fun r s' => r = .ok (.ret (.bool true)) ∧ OldK s₁.heap s'.heap ∧ s'.os = s₁.os ∧ AllBare s'.gens) s₁ := by
    intro H hO hS hok hA hK
    have base_of : ∀ {b : Addr} {o : Obj}, s₁.heap.get? b = some o → H b = none → (hidT s₁.heap H).get? b = some o := fun e n => hidT_get e n
    have noA : ∀ {b : Addr} {o : Obj} {es : Array DictEntry} {ep : Nat}, s₁.heap.get? b = some o → o.data = .dict es ep → H b = none := fun {b o es ep} e d => by
      cases q : H b with
      | none => rfl
      | some u =>
        have e' : b = a := hA b (by rw [q]; simp)
        subst e'
        rw [ha] at e; cases e
        have d' : Data.seq vs.toArray _ = Data.dict es ep := d
        cases d'
    have nsK : ∀ {b : Addr} {m : Str → Option Value}, s₁.heap.Ns b m → (hidT s₁.heap H).Ns b m := fun {b m} ⟨o, es, ep, e, d, r⟩ => ⟨o, es, ep, base_of e (noA e d), d, r⟩
    have hKb : K.In (hidT s₁.heap H) := fun b o e => base_of (KX b o e) (by
      cases q : H b with
      | none => rfl
      | some u =>
        have e' : b = a := hA b (by rw [q]; simp)
        subst e'
        rw [hK (by rw [q]; simp)] at e; cases e)
    have hM : Mod K mg (hidT s₁.heap H) := ⟨hKb, nsK hns, ⟨mb, nsK hb, hbb⟩, let ⟨mc, h1, h2⟩ := hlim; ⟨mc, nsK h1, h2⟩⟩
    have e0 : Env0 P w K mg (hidT s₁.heap H) callerA [] s₁ H := ⟨rfl, hM, fun b o e => of_hidT e, Nat.le_of_eq (hidT_size _ _), trivial, fun b hb => absurd (show b ∈ ([] : List Addr) from hb) (by simp), hok, .of_eq hg⟩
    refine codeAny_mono ((F _ hKb (nsK hns)).run callerA [] s₁ H ⟨[.ref a], []⟩ [.ref a] [.ref a] _ _ hr e0 (hbind s₁ (.ref a)) (.cons rfl .nil) (hsp H hO hS)) fun r s' h => ?_
    cases r with
    | error e => exact (hCX H e s' h).elim
    | ok fl =>
      cases fl with
      | next => exact False.elim h
      | brk => exact False.elim h
      | cont => exact False.elim h
      | ret u =>
        obtain ⟨v, H', os, bare, un, hok', r', q⟩ := h
        have q' : v = .bl true := q
        subst q'
        obtain rfl : u = Value.bool true := r'
        refine ⟨rfl, OldK.of_keep fun b o e => ?_, os, bare⟩
        cases q : H b with
        | none => exact un.keep b o e q (by intro z; exact absurd (show b ∈ ([] : List Addr) from z) (by simp)) (by simp)
        | some u =>
          rcases hO b with z | ⟨ob, xs, z⟩
          · rw [q] at z; cases z
          · have z2 := un.frzs b ob _ z
            obtain ⟨e1, _⟩ := hok b _ z
            obtain ⟨e2, _⟩ := hok' b _ z2
            rw [e] at e1; cases e1
            exact e2
  cases hk : K.lookup a with
  | some o =>
    -- the script is one of the module's own objects
    have e := KX a o hk
    rw [ha] at e
    cases e
    refine core (fun _ => none) (fun _ => .inl rfl) (.inr ⟨_, vs.toArray, _, hk, rfl, rfl, rfl, by rw [List.size_toArray, lenV]; exact hl, by simpa using rv⟩) (fun b u z => by have z' : (none : Option HO) = some u := z; cases z') (fun b z => absurd rfl z) fun z => absurd rfl z
  | none =>
    refine core (fun b => if b = a then some (.frz { cls := .type "list", data := .seq vs.toArray } (.lst (ns.map V.int))) else none) (fun b => ?_) (.inl (.inr ⟨{ cls := .type "list", data := .seq vs.toArray }, if_pos rfl⟩)) (fun b u z => ?_) (fun b z => ?_) fun _ => hk
    · by_cases hb : b = a
      · exact .inr ⟨_, _, if_pos hb⟩
      · exact .inl (if_neg hb)
    · by_cases hb : b = a
      · have z' := (if_pos hb).symm.trans z
        cases z'
        subst hb
        exact ⟨ha, by rw [List.length_map]; exact hl, vs, _, rv, ha⟩
      · have z' := (if_neg hb).symm.trans z
        cases z'
    · by_cases hb : b = a
      · exact hb
      · exact absurd (if_neg hb) z
end L2
namespace L2
open PySem PySem.Spec PyProof.Rows
abbrev KOf {K : PySem.W.Frag} {h : Heap} (_ : K.In h) : PySem.W.Frag := K

theorem walk_of {l : PySem.W.OpenLaw} {n k : Nat} {q : Program} {loose : List Str} {XP : (Str → Option Value) → Heap → Prop} {YP : World → Heap → Prop} {d : DefRec} {K : Params → PySem.W.Frag} {CX : World → CXT} {sp : World → Sp} {x : Str}
    (hn : l.most = some n) (hn2 : n ≤ sizeLine) (hdf : d.params.defaults = []) (hr : Room k callerA)
    (hY : ∀ (w : World) (h : Heap), YP w h → (K w.params).In h)
    (F : ∀ (w : World) (mg : Str → Option Value) (fa : Addr) (h : Heap), (K w.params).In h → h.Ns mainGlobals mg → mg d.name = some (.ref fa) →
      ∃ fd : FuncData, (∀ (s : Shared) (u : Value), BindsTo s fd ⟨[u], []⟩ [(x, u)]) ∧
        ∀ base : Heap, (K w.params).In base → base.Ns mainGlobals mg → FnOk l.prog w (K w.params) mg base (CX w) k fa fd [x] (sp w))
    (hsp : ∀ (w : World) (H : Hp) (a : Addr) (ns : List Int), ns.length ≤ n → Only H → SqL (K w.params) H a (ns.map V.int) → sp w [.ref a] H (fun v _ => v = .bl true) fun _ _ _ => False)
    (hCX : ∀ (w : World) (H : Hp) (s : Shared) (e : Value) (s' : Shared), CX w [] H s (fun _ _ _ => False) e s' → False) :
    PySem.W.WalkO q loose XP YP l.row.toRowW d [] (fun f vs => PySem.call f vs) := by
  refine Att.attach_call hn hdf fun w s₀ s₁ mg mb fa o pm cd doc a vs ns G Y ho hd hcd hmg hobj hints hlen hg => ?_
  have KX := hY w _ Y
  obtain ⟨fd, hb, hF⟩ := F w mg fa _ KX G.T.g hmg
  exact law_call KX G.T.g G.T.b G.T.builtins G.T.nolimit hg hobj hints (Nat.le_trans hlen hn2) hr hF hb (fun H hO hS => hsp w H a ns hlen hO hS) fun H e s' => hCX w H s₁ e s'
theorem walk_ofK {l : PySem.W.OpenLaw} {n k : Nat} {q : Program} {loose : List Str} {XP : (Str → Option Value) → Heap → Prop} {YP : World → Heap → Prop} {d : DefRec} {K : Params → PySem.W.Frag} {CX : CXT} {sp : PySem.W.Frag → Sp} {x : Str}
    (hn : l.most = some n) (hn2 : n ≤ sizeLine) (hdf : d.params.defaults = []) (hr : Room k callerA)
    (hY : ∀ (w : World) (h : Heap), YP w h → (K w.params).In h)
    (F : ∀ (w : World) (mg : Str → Option Value) (fa : Addr) (h : Heap), (K w.params).In h → h.Ns mainGlobals mg → mg d.name = some (.ref fa) →
      ∃ fd : FuncData, (∀ (s : Shared) (u : Value), BindsTo s fd ⟨[u], []⟩ [(x, u)]) ∧
        ∀ base : Heap, (K w.params).In base → base.Ns mainGlobals mg → FnOk l.prog w (K w.params) mg base CX k fa fd [x] (sp (K w.params)))
    (hsp : ∀ (K : PySem.W.Frag) (H : Hp) (a : Addr) (ns : List Int), ns.length ≤ n → Only H → SqL K H a (ns.map V.int) → sp K [.ref a] H (fun v _ => v = .bl true) fun _ _ _ => False)
    (hCX : ∀ (H : Hp) (s : Shared) (e : Value) (s' : Shared), CX [] H s (fun _ _ _ => False) e s' → False) :
    PySem.W.WalkO q loose XP YP l.row.toRowW d [] (fun f vs => PySem.call f vs) :=
  walk_of (K := K) (CX := fun _ => CX) (sp := fun w => sp (K w.params)) hn hn2 hdf hr hY F (fun w H a ns h1 h2 h3 => hsp (K w.params) H a ns h1 h2 h3) fun _ H s e s' => hCX H s e s'
end L2
namespace L2
open PySem PySem.Spec PyProof.Rows
def defArgs (s : Stmt) : Arguments := match s with
  | .FunctionDef _ a _ _ _ _ _ _ _ _ => a
  | _ => { posonlyargs := [], args := [], vararg := none, kwonlyargs := [], kw_defaults := [], kwarg := none, defaults := [] }
def defBody (s : Stmt) : List Stmt := match s with
  | .FunctionDef _ _ b _ _ _ _ _ _ _ => b
  | _ => []
def defScope (s : Stmt) : Scope := match s with
  | .FunctionDef _ _ _ _ _ _ sc _ _ _ => sc
  | _ => { kind := .function, names := [], isGenerator := false, isCoroutine := false }

abbrev CX0 : CXT := fun _ _ _ _ _ _ => False
abbrev E0 : XK := fun _ _ _ => False
theorem pass0 {X : Cx} : Passes CX0 X E0 := fun _ _ _ _ _ _ _ h => h.elim

structure Fun (K : PySem.W.Frag) (x qual : Str) (st : Stmt) (f : Addr) (fd : FuncData) : Prop where
  ex : ∃ (oc : Value) (od : Option Addr) (kV doc pm : Value) (an : Option Addr) (cdv ct : Value) (osl : Array (Option Value)),
    fd = PySem.W.fnOf x qual (defArgs st) (defBody st) (defScope st) .none kV doc pm an cdv ct ∧ K.lookup f = some ⟨oc, od, .func fd, osl⟩ ∧ PySem.W.codeIn K cdv qual = true
  kp : PySem.W.keepIn K (.ref f) = true
section
variable {P : Program} {w : World} {K : PySem.W.Frag} {mg : Str → Option Value} {base : Heap}
theorem Fun.ok {x qual : Str} {st : Stmt} {f : Addr} {fd : FuncData} {N ps : List Str} {k : Nat} {sp : Sp} (F : Fun K x qual st f fd) (S : FnScope N ps (defScope st)) (len : ∀ vs H Q E, sp vs H Q E → vs.length = ps.length)
    (hbody : ∀ (cdv : Value) (A : Around) (outer : List Env) (s : Shared) (H : Hp) (vs : List V) (Q : VK) (E : XK), Room k (A.deeper (envOfC qual (defScope st) s.heap.objs.size f cdv)) → sp vs H Q E →
      ∃ t, PSs (cxOf CX0 P w K mg base N qual (defScope st) f cdv A outer s H E).nox (defBody st) t ∧ t { nx := fun _ H' => Q .non H', rt := Q } (start N vs) H) : FnOk P w K mg base CX0 (k + 1) f fd ps sp := by
  obtain ⟨oc, od, kV, doc, pm, an, cdv, ct, osl, rfl, lk, hcd⟩ := F.ex
  refine fn_of lk hcd S len fun A outer s H vs Q E hr hsp => ?_
  obtain ⟨t, h, q⟩ := hbody cdv A outer s H vs Q E hr hsp
  exact ⟨t, h.nox, q⟩
theorem Fun.binds {x qual : Str} {st : Stmt} {f : Addr} {fd : FuncData} {ps : List Str} (F : Fun K x qual st f fd)
    (h : ∀ (kV doc pm : Value) (an : Option Addr) (cdv ct : Value) (us : List Value), us.length = ps.length → bindArgs (PySem.W.fnOf x qual (defArgs st) (defBody st) (defScope st) .none kV doc pm an cdv ct) ⟨us, []⟩ = pure (ps.zip us)) : Binds K fd ps [] := by
  obtain ⟨oc, od, kV, doc, pm, an, cdv, ct, osl, rfl, lk, hcd⟩ := F.ex
  exact .all (h kV doc pm an cdv ct)
theorem fun_mk {x qual : Str} {st : Stmt} {f : Addr} {oc : Value} {od an : Option Addr} {osl : Array (Option Value)} {kV doc pm cdv ct : Value} (l : K.lookup f = some ⟨oc, od, .func (PySem.W.fnOf x qual (defArgs st) (defBody st) (defScope st) .none kV doc pm an cdv ct), osl⟩)
    (c : PySem.W.codeIn K cdv qual = true) (k : PySem.W.keepIn K (.ref f) = true) : Fun K x qual st f (PySem.W.fnOf x qual (defArgs st) (defBody st) (defScope st) .none kV doc pm an cdv ct) := ⟨⟨oc, od, kV, doc, pm, an, cdv, ct, osl, rfl, l, c⟩, k⟩
end
def Same (H H' : Hp) : Prop := ∀ b o, H b = some o → H' b = some o
theorem Same.refl (H : Hp) : Same H H := fun _ _ h => h
end L2
set_option Elab.async false
set_option linter.all false
set_option maxRecDepth 100000
namespace L2
open PySem PySem.Spec PyProof.Rows
def clOf (cells : List (Str × Addr)) : List (Str × NameKind) → List (Str × Addr) → List (Str × Addr)
  | [], acc => acc
  | (n, k) :: r, acc => if k == .free then clOf cells r ((n, (cells.lookup n).getD 0) :: acc) else clOf cells r acc

theorem clOf_run (env : Env) : ∀ (names : List (Str × NameKind)) (acc : List (Str × Addr)), (∀ y ∈ names, y.2 = .free → ∃ c, env.cells.lookup y.1 = some c) →
    (forIn names acc fun (x : Str × NameKind) (cs : List (Str × Addr)) =>
      match x with
      | (name, kind) => if (kind == .free) = true then (do let c ← cellOf env name; pure (ForInStep.yield ((name, c) :: cs))) else pure (ForInStep.yield cs)) = (pure (clOf env.cells names acc) : Sem _)
  | [], acc, _ => rfl
  | (n, k) :: r, acc, h => by
    rw [List.forIn_cons]
    by_cases hk : (k == NameKind.free) = true
    · obtain ⟨c, hc⟩ := h (n, k) List.mem_cons_self (eq_of_beq hk)
      have e : cellOf env n = pure c := by unfold cellOf; rw [show env.cells.lookup n = some c from hc]
      simp only [hk, if_true, e, clOf]
      rw [show env.cells.lookup n = some c from hc]
      simp only [pure_bind, Option.getD_some]
      exact clOf_run env r _ fun y hy => h y (List.mem_cons_of_mem _ hy)
    · simp only [hk, if_false, clOf, pure_bind]
      exact clOf_run env r _ fun y hy => h y (List.mem_cons_of_mem _ hy)
theorem closure_of {scope : Scope} {env : Env} (h : ∀ y ∈ scope.names, y.2 = .free → ∃ c, env.cells.lookup y.1 = some c) : closureFor scope env = pure (clOf env.cells scope.names []) := by
  have e := clOf_run env scope.names [] h
  simp only [closureFor]
  simp only [bind_pure_comp, map_pure] at e ⊢
  first | exact e | (rw [e]; rfl) | (simp only [e]; rfl)

theorem clOf_fwd {cells : List (Str × Addr)} {x : Str} {c : Addr} : ∀ {names : List (Str × NameKind)} {acc : List (Str × Addr)}, (∀ y ∈ names, y.2 = .free → ∃ c, cells.lookup y.1 = some c) → (∀ z, acc.lookup x = some z → cells.lookup x = some z) →
    (clOf cells names acc).lookup x = some c → cells.lookup x = some c
  | [], acc, _, ha, h => ha c h
  | (n, k) :: r, acc, hf, ha, h => by
    unfold clOf at h
    by_cases hk : (k == NameKind.free) = true
    · rw [if_pos hk] at h
      refine clOf_fwd (fun y hy => hf y (List.mem_cons_of_mem _ hy)) (fun z hz => ?_) h
      rw [List.lookup_cons] at hz
      split at hz
      · rename_i q
        have e : x = n := eq_of_beq q
        subst e
        obtain ⟨d, hd⟩ := hf (x, k) List.mem_cons_self (eq_of_beq hk)
        have hd' : cells.lookup x = some d := hd
        rw [hd'] at hz ⊢
        exact hz
      · exact ha z hz
    · rw [if_neg hk] at h
      exact clOf_fwd (fun y hy => hf y (List.mem_cons_of_mem _ hy)) ha h
theorem clOf_acc {cells : List (Str × Addr)} {x : Str} {c : Addr} (hc : cells.lookup x = some c) : ∀ {names : List (Str × NameKind)} {acc : List (Str × Addr)}, ((x, NameKind.free) ∈ names ∨ acc.lookup x = some c) →
    (clOf cells names acc).lookup x = some c
  | [], acc, h => by
    rcases h with h | h
    · cases h
    · exact h
  | (n, k) :: r, acc, h => by
    unfold clOf
    by_cases hk : (k == NameKind.free) = true
    · rw [if_pos hk]
      refine clOf_acc hc ?_
      by_cases hn : x = n
      · subst hn
        right
        rw [List.lookup_cons]
        simp [hc]
      · rcases h with h | h
        · rcases List.mem_cons.mp h with h | h
          · injection h with h1 _; exact absurd h1 hn
          · exact .inl h
        · right
          rw [List.lookup_cons]
          have : (x == n) = false := beq_eq_false_iff_ne.mpr hn
          rw [this]
          exact h
    · rw [if_neg hk]
      refine clOf_acc hc ?_
      rcases h with h | h
      · rcases List.mem_cons.mp h with h | h
        · injection h with _ h2; subst h2; exact absurd rfl hk
        · exact .inl h
      · exact .inr h
theorem relabel_free {env : Env} {x : Str} : ∀ {names : List (Str × NameKind)}, (∀ y ∈ names, y.2 ≠ .cell) →
    ((names.map fun (n, k) => if (k == NameKind.free && env.scope.kind == .function && env.kindOf n == some .cell) = true then (n, NameKind.cell) else (n, k)).lookup x = some .cell ∨
      (names.map fun (n, k) => if (k == NameKind.free && env.scope.kind == .function && env.kindOf n == some .cell) = true then (n, NameKind.cell) else (n, k)).lookup x = some .free) → (x, NameKind.free) ∈ names
  | [], _, h => by rcases h with h | h <;> cases h
  | (n, k) :: r, hn, h => by
    have ih := @relabel_free env x r fun y hy => hn y (List.mem_cons_of_mem _ hy)
    rw [List.map_cons] at h
    cases hx : x == n with
    | true =>
      have e : x = n := eq_of_beq hx
      subst e
      by_cases hc : (k == NameKind.free && env.scope.kind == .function && env.kindOf x == some .cell) = true
      · have hk : (k == NameKind.free) = true := by
          rw [Bool.and_eq_true, Bool.and_eq_true] at hc
          exact hc.1.1
        have hk' : k = .free := eq_of_beq hk
        subst hk'
        exact List.mem_cons_self
      · have hc' : (if (k == NameKind.free && env.scope.kind == .function && env.kindOf x == some .cell) = true then (x, NameKind.cell) else (x, k)) = (x, k) := if_neg hc
        simp only [hc', List.lookup_cons, beq_self_eq_true] at h
        have hk : k = .cell ∨ k = .free := by
          rcases h with h | h
          · exact .inl (Option.some.inj h)
          · exact .inr (Option.some.inj h)
        rcases hk with hk | hk
        · exact absurd hk (hn (x, k) List.mem_cons_self)
        · subst hk; exact List.mem_cons_self
    | false =>
      refine List.mem_cons_of_mem _ (ih ?_)
      by_cases hc : (k == NameKind.free && env.scope.kind == .function && env.kindOf n == some .cell) = true
      · have hc' : (if (k == NameKind.free && env.scope.kind == .function && env.kindOf n == some .cell) = true then (n, NameKind.cell) else (n, k)) = (n, NameKind.cell) := if_pos hc
        simp only [hc', List.lookup_cons, hx] at h
        exact h
      · have hc' : (if (k == NameKind.free && env.scope.kind == .function && env.kindOf n == some .cell) = true then (n, NameKind.cell) else (n, k)) = (n, k) := if_neg hc
        simp only [hc', List.lookup_cons, hx] at h
        exact h
theorem relabel_lookup_free {env : Env} {x : Str} : ∀ {names : List (Str × NameKind)}, names.lookup x = some .free →
    (names.map fun (n, k) => if (k == NameKind.free && env.scope.kind == .function && env.kindOf n == some .cell) = true then (n, NameKind.cell) else (n, k)).lookup x = some .cell ∨
      (names.map fun (n, k) => if (k == NameKind.free && env.scope.kind == .function && env.kindOf n == some .cell) = true then (n, NameKind.cell) else (n, k)).lookup x = some .free
  | [], h => by cases h
  | (n, k) :: r, h => by
    have ih := @relabel_lookup_free env x r
    rw [List.map_cons]
    rw [List.lookup_cons] at h
    cases hx : x == n with
    | true =>
      rw [hx] at h
      have hk : k = .free := Option.some.inj h
      subst hk
      by_cases hc : (NameKind.free == NameKind.free && env.scope.kind == .function && env.kindOf n == some .cell) = true
      · have hc' : (if (NameKind.free == NameKind.free && env.scope.kind == .function && env.kindOf n == some .cell) = true then (n, NameKind.cell) else (n, NameKind.free)) = (n, NameKind.cell) := if_pos hc
        simp only [hc', List.lookup_cons, hx]
        exact .inl trivial
      · have hc' : (if (NameKind.free == NameKind.free && env.scope.kind == .function && env.kindOf n == some .cell) = true then (n, NameKind.cell) else (n, NameKind.free)) = (n, NameKind.free) := if_neg hc
        simp only [hc', List.lookup_cons, hx]
        exact .inr trivial
    | false =>
      rw [hx] at h
      have q := ih h
      by_cases hc : (k == NameKind.free && env.scope.kind == .function && env.kindOf n == some .cell) = true
      · have hc' : (if (k == NameKind.free && env.scope.kind == .function && env.kindOf n == some .cell) = true then (n, NameKind.cell) else (n, k)) = (n, NameKind.cell) := if_pos hc
        simp only [hc', List.lookup_cons, hx]
        exact q
      · have hc' : (if (k == NameKind.free && env.scope.kind == .function && env.kindOf n == some .cell) = true then (n, NameKind.cell) else (n, k)) = (n, k) := if_neg hc
        simp only [hc', List.lookup_cons, hx]
        exact q
theorem mem_of_lookup_free {x : Str} {k : NameKind} : ∀ {names : List (Str × NameKind)}, names.lookup x = some k → (x, k) ∈ names := fun h => PySem.mem_of_lookup h

def Cx.comp (X : Cx) (scope : Scope) (cl : List (Str × Addr)) (C : Addr) (s₀ : Shared) (H₀ : Hp) (fp : List Addr) (N' : List Str) : Cx :=
  { prog := X.prog, w := X.w, K := X.K, mg := X.mg, base := X.base, A := X.A, N := N', s₀ := s₀, H₀ := H₀, env := compEnvC scope cl C X.env, outer := X.stack, stack := X.stack, ex := fp, fn := fun _ => false, calm := X.calm, pn := [], xe := fun _ _ => False }

structure CompScope (X : Cx) (N' : List Str) (ix : List (Option Nat)) (scope : Scope) : Prop where
  kind : scope.kind = .function
  nocell : ∀ y ∈ scope.names, y.2 ≠ .cell
  names : ∀ y ∈ scope.names, y.2 = .local → scope.names.lookup y.1 = some .local
  free : ∀ y ∈ scope.names, y.2 = .free → X.env.kindOf y.1 = some .cell ∨ X.env.kindOf y.1 = some .free
  len : ix.length = N'.length
  ixok : ∀ (i j : Nat) (x : Str), ix[i]? = some (some j) → N'[i]? = some x → X.N[j]? = some x ∧ scope.names.lookup x = some .free

def tau (ix : List (Option Nat)) (σ : St) : St := ix.map fun o => match o with | none => none | some j => (σ[j]?).join

def tComp (ix : List (Option Nat)) (wi : TI) (g : TG) (tt : TT) (te : TE) : TE := fun σ H Q =>
  wi σ H fun J H1 => ∀ D, H1 D = none →
    ∃ W : Nat → Nat → List V → Hp → Prop, (∃ m, W 0 m [] (upd H1 D (.lst []))) ∧
    ∀ i m acc H2, W i m acc H2 → H2 D = some (.lst acc) →
      (J.stop i H2 ∧ Q (.ref D) H2) ∨
      (J.go i H2 ∧ acc.length < sizeLine ∧ ∀ x H3, J.yld i H2 x H3 → g x (tau ix σ) H3 fun τ H4 => (τ.length = ix.length ∧ ∀ (k : Nat) v, (tau ix σ)[k]? = some (some v) → τ[k]? = some (some v)) ∧
        tt τ H4 fun b H5 => if b = true then te τ H5 fun y H6 => H6 D = some (.lst acc) ∧ ∃ m', m' < m ∧ W (i + 1) m' (acc ++ [y]) (upd H6 D (.lst (acc ++ [y])))
          else H5 D = some (.lst acc) ∧ ∃ m', m' < m ∧ W (i + 1) m' acc H5)

def PTs (X : Cx) (ifs : List Expr) (t : TT) : Prop :=
  ∀ (pins : List (Addr × Obj)) (s : Shared) (σ : St) (H : Hp) (Q : Bool → Hp → Prop), Inv X pins σ H s → t σ H Q →
    wpAny (model X.prog X.w) X.A (forIn ifs true fun c r => if r = true then do let ok ← isTrue c X.env (eval c X.env); pure (ForInStep.yield ok) else pure (ForInStep.yield r)) (TP X pins σ Q) X.xe s
def tTrue : TT := fun _ H Q => Q true H
theorem pts_nil {X : Cx} : PTs X [] tTrue := fun pins s σ H Q I h => wpAny_tests_nil ⟨H, I, h⟩
theorem pts_one {X : Cx} {c : Expr} {t : TT} (h : PT X c t) : PTs X [c] t := fun pins s σ H Q I hw => wpAny_tests_one (h pins s σ H Q I hw)

section
variable {prog : Program} {w : World} {A : Around} {R : Result → Shared → Prop} {s : Shared}
theorem compLoop_any {elt target iter : Expr} {ifs : List Expr} {scope : Scope} {pos : Pos} {it acc : Value} {env : Env} (I : Nat → Shared → Prop)
    (turn : ∀ n s, I n s → wpAny (model prog w) A (pyNext it) (fun r s₁ => match r with
      | none => R (.ok .next) s₁
      | some v => wpAny (model prog w) A (letOwnedTupleGo target it v) (fun _ s₁' => wpAny (model prog w) A (assign target env v) (fun _ s₂ =>
          wpAny (model prog w) A (forIn ifs true fun c r => if r = true then do let ok ← isTrue c env (eval c env); pure (ForInStep.yield ok) else pure (ForInStep.yield r)) (fun ok s₃ =>
            if ok = true then wpAny (model prog w) A (eval elt env) (fun x s₄ =>
              wpAny (model prog w) A (call (.builtin "list.append") [acc, x]) (fun _ s₅ => ∃ m, m < n ∧ I m s₅) (fun _ _ => False) s₄) (fun _ _ => False) s₃
            else ∃ m, m < n ∧ I m s₃) (fun _ _ => False) s₂) (fun _ _ => False) s₁') (fun _ _ => False) s₁) (fun _ _ => False) s)
    (n : Nat) (h : I n s) :
    codeAny (model prog w) A (.compLoop (.ListComp elt [⟨target, iter, ifs, 0⟩] scope pos) 0 it acc env) R s := by
  refine codeAny_loop rfl I (fun n s hI => ?_) n h
  show wpAny _ A ((compTurn (.ListComp elt [⟨target, iter, ifs, 0⟩] scope pos) 0 it acc env).onRaise (fun x => do noteFrame x env; theTreesLotGoes x)) _ _ s
  refine wpAny_noted ?_
  rw [compTurn_list]
  refine wpAny_bind (wpAny_standAt (wpAny_bind (wpAny_mono (turn n s hI) (fun r s₁ h₁ => ?_) fun _ _ h' => h'.elim)))
  cases r with
  | none => exact wpAny_pure h₁
  | some v =>
    refine wpAny_bind (wpAny_mono h₁ (fun _ s₁' h₁' => ?_) fun _ _ h' => h'.elim)
    refine wpAny_bind (wpAny_mono h₁' (fun _ s₂ h₂ => wpAny_bind (wpAny_mono h₂ (fun ok s₃ h₃ => ?_) fun _ _ h' => h'.elim)) fun _ _ h' => h'.elim)
    cases ok with
    | false => exact wpAny_pure ⟨rfl, h₃⟩
    | true =>
      exact wpAny_bind (wpAny_bind (wpAny_mono h₃ (fun x s₄ h₄ => wpAny_bind (wpAny_mono h₄ (fun _ s₅ h₅ => wpAny_pure (wpAny_pure ⟨rfl, h₅⟩)) fun _ _ h' => h'.elim)) fun _ _ h' => h'.elim))
end
section
variable {X : Cx}
theorem comp_start {pins : List (Addr × Obj)} {σ : St} {H1 : Hp} {s2 : Shared} {N' : List Str} {ix : List (Option Nat)} {scope : Scope} {fp : List Addr} {h₁ : Heap}
    (S : CompScope X N' ix scope) (I : Inv X pins σ H1 s2) (f2 : ∀ b ∈ fp, FpOk X pins H1 b) (hfp : ∀ b ∈ fp, b < s2.heap.objs.size)
    (hns : h₁.Ns (s2.heap.objs.size + 1) (fun x => ([] : List (Str × Value)).reverse.lookup x))
    (hsb : Heap.SameBut (s2.heap.objs.size + 1) ((s2.heap.push { cls := .type "list", dict := none, data := .seq ([] : List Value).toArray }).push { cls := .type "dict", data := .dict #[] }) h₁) (tk : Nat) :
    Inv (X.comp scope (clOf X.env.cells scope.names []) (s2.heap.objs.size + 1) { s2 with heap := s2.heap.push { cls := .type "list", dict := none, data := .seq ([] : List Value).toArray } } (upd H1 s2.heap.objs.size (.lst [])) fp N') [] (tau ix σ)
      (upd H1 s2.heap.objs.size (.lst [])) { s2 with heap := h₁, toks := tk } := by
  have hfr : ∀ y ∈ scope.names, y.2 = .free → ∃ c, X.env.cells.lookup y.1 = some c := fun y hy e => I.ok.has _ (S.free y hy e)
  have fwd : ∀ x c, (clOf X.env.cells scope.names []).lookup x = some c → X.env.cells.lookup x = some c := fun x c h => clOf_fwd hfr (fun z hz => by cases hz) h
  have I3 : Inv X pins σ (upd H1 s2.heap.objs.size (.lst [])) { s2 with heap := s2.heap.push { cls := .type "list", dict := none, data := .seq ([] : List Value).toArray } } := I.lnew (t' := s2.toks) (ys := []) .nil (Nat.zero_le _)
  have sz3 : (s2.heap.push { cls := .type "list", dict := none, data := .seq ([] : List Value).toArray }).objs.size = s2.heap.objs.size + 1 := Heap.size_push ..
  have old : ∀ b o, (s2.heap.push { cls := .type "list", dict := none, data := .seq ([] : List Value).toArray }).get? b = some o → h₁.get? b = some o := fun b o e =>
    hsb.extBut b o (by have := Heap.lt_size e; rw [sz3] at this; exact Nat.ne_of_lt this) (Heap.get?_push_of_some _ e)
  have ncell : ∀ x c, X.env.cells.lookup x = some c → c < s2.heap.objs.size := fun x c e => by
    obtain ⟨v, z⟩ := I.cell x c e
    exact z.lt
  refine ⟨⟨I.ok.mod, ?_, I.ok.glob, I.ok.blt, ?_, fun x y c h1 h2 => I.ok.inj x y c (fwd x c h1) (fwd y c h2), fun x hx => ?_, fun _ _ h => (nomatch h), I.ok.hd, I.ok.frames, .inl rfl, fun b hb => ⟨?_, fun x c e => ?_⟩, fun b o e => I3.bs b o e, ?_, fun b o e hb => ?_, fun b hb => ?_, I3.stack, I3.stkFree⟩,
    rfl, I.bare, Un.kept old, ⟨_, hns, fun i x v h1 h2 h3 => ?_⟩, fun x c e => ?_, ?_, fun x c e => ?_, fun p hp => absurd (show p ∈ ([] : List (Addr × Obj)) from hp) (by simp), I3.hok.kept old, ?_⟩
  · show (relabel scope X.env).kind = .function
    exact S.kind
  · show (s2.heap.push { cls := .type "list", dict := none, data := .seq ([] : List Value).toArray }).objs.size ≤ s2.heap.objs.size + 1
    rw [sz3]; exact Nat.le_refl _
  · have hx' : (x, NameKind.free) ∈ scope.names := relabel_free (env := X.env) S.nocell hx
    obtain ⟨c, hc⟩ := hfr _ hx' rfl
    exact ⟨c, clOf_acc hc (.inl hx')⟩
  · show b ≠ s2.heap.objs.size + 1
    exact Nat.ne_of_lt (Nat.lt_succ_of_lt (hfp b hb))
  · exact (f2 b hb).2.2.2.2.1 x c (fwd x c e)
  · show X.base.objs.size ≤ (s2.heap.push { cls := .type "list", dict := none, data := .seq ([] : List Value).toArray }).objs.size
    rw [sz3]
    exact Nat.le_succ_of_le (Nat.le_trans I.ok.bsz I.sz)
  · rcases (f2 b hb).2.2.2.1 with z | z
    · exact I.ok.noex b o e z
    · exact absurd (Nat.lt_of_lt_of_le (Heap.lt_size e) (Nat.le_trans I.ok.bsz z)) (Nat.lt_irrefl _)
  · intro hm
    rcases List.mem_cons.mp (I.stkSub b hm) with z | z
    · exact (f2 b hb).2.1 z
    · exact (f2 b hb).2.2.1 z
  · have hi : ∃ j, ix[i]? = some (some j) ∧ σ[j]? = some (some v) := by
      unfold tau at h2
      rw [List.getElem?_map] at h2
      cases e : ix[i]? with
      | none => rw [e] at h2; cases h2
      | some o =>
        rw [e] at h2
        cases o with
        | none => cases h2
        | some j =>
          refine ⟨j, rfl, ?_⟩
          have h2' : (σ[j]?).join = some v := Option.some.inj h2
          cases e2 : σ[j]? with
          | none => rw [e2] at h2'; cases h2'
          | some q => rw [e2] at h2'; exact congrArg some h2'
    obtain ⟨j, hj, hσ⟩ := hi
    obtain ⟨hN, hfree⟩ := S.ixok i j x hj h1
    have hmem : (x, NameKind.free) ∈ scope.names := mem_of_lookup_free hfree
    have hk := S.free _ hmem rfl
    obtain ⟨m, hn, hl⟩ := I3.loc
    obtain ⟨u, r, l⟩ := hl j x v hN hσ (by rcases hk with k | k; exact .inr (.inl k); exact .inr (.inr k))
    refine ⟨u, r, ?_⟩
    rcases l with ⟨k, _⟩ | ⟨_, c, hc, z⟩
    · rcases hk with q | q
      · rw [show X.env.kindOf x = some .cell from q] at k; cases k
      · rw [show X.env.kindOf x = some .free from q] at k; cases k
    · refine .inr ⟨?_, c, clOf_acc hc (.inl hmem), z.keeps old⟩
      exact relabel_lookup_free (env := X.env) hfree
  · obtain ⟨v, z⟩ := I3.cell x c (fwd x c e)
    exact ⟨v, z.keeps old⟩
  · show (upd H1 s2.heap.objs.size (.lst [])) (s2.heap.objs.size + 1) = none
    rw [upd_ne (Nat.succ_ne_self _)]
    exact I.hok.fresh (Nat.le_succ _)
  · exact I3.freeC x c (fwd x c e)
  · show (tau ix σ).length = N'.length
    unfold tau
    rw [List.length_map]
    exact S.len

theorem comp_block {pins : List (Addr × Obj)} {σ : St} {H1 : Hp} {s2 : Shared} {N' : List Str} {ix : List (Option Nat)} {scope : Scope} {fp : List Addr} {it : Addr} {tn : Nat → Heap → Prop} {J : It}
    {elt tg iter : Expr} {ifs : List Expr} {pos : Pos} {g : TG} {tt : TT} {te : TE} {Q : VK} {RR : Value → Addr → Result → Shared → Prop}
    (S : CompScope X N' ix scope) (hcalm : X.calm = true) (I : Inv X pins σ H1 s2) (T : Turn X.prog X.w X.K tg J fp it tn) (st : tn 0 s2.heap) (f2 : ∀ b ∈ fp, FpOk X pins H1 b)
    (hg : ∀ C s₀ H₀, PG (X.comp scope (clOf X.env.cells scope.names []) C s₀ H₀ fp N') tg g)
    (ht : ∀ C s₀ H₀, PTs (X.comp scope (clOf X.env.cells scope.names []) C s₀ H₀ fp N') ifs tt)
    (he : ∀ C s₀ H₀, PE (X.comp scope (clOf X.env.cells scope.names []) C s₀ H₀ fp N') elt te)
    (h : ∀ D, H1 D = none →
      ∃ W : Nat → Nat → List V → Hp → Prop, (∃ m, W 0 m [] (upd H1 D (.lst []))) ∧
      ∀ i m acc H2, W i m acc H2 → H2 D = some (.lst acc) →
        (J.stop i H2 ∧ Q (.ref D) H2) ∨
        (J.go i H2 ∧ acc.length < sizeLine ∧ ∀ x H3, J.yld i H2 x H3 → g x (tau ix σ) H3 fun τ H4 => (τ.length = ix.length ∧ ∀ (k : Nat) v, (tau ix σ)[k]? = some (some v) → τ[k]? = some (some v)) ∧
          tt τ H4 fun b H5 => if b = true then te τ H5 fun y H6 => H6 D = some (.lst acc) ∧ ∃ m', m' < m ∧ W (i + 1) m' (acc ++ [y]) (upd H6 D (.lst (acc ++ [y])))
            else H5 D = some (.lst acc) ∧ ∃ m', m' < m ∧ W (i + 1) m' acc H5))
    (hRR : ∀ D C s' H', Inv X pins σ H' s' → Q (.ref D) H' → (∃ m, s'.heap.Ns C m) → H' C = none → C ≠ X.env.locals → X.s₀.heap.objs.size ≤ C → (∀ x c, X.env.cells.lookup x = some c → c ≠ C) → (∀ p ∈ X.pn ++ pins, p.1 ≠ C) → RR (.ref D) C (.ok .next) s') :
    wpAny (model X.prog X.w) X.A (newList []) (fun acc s₃ => wpAny (model X.prog X.w) X.A (newFunctionEnv scope X.env.globals (clOf X.env.cells scope.names []) [] X.env.qual none .none (some X.env)) (fun cenv s₄ =>
      codeAny (model X.prog X.w) X.A (.compStart (.ListComp elt [⟨tg, iter, ifs, 0⟩] scope pos) 0 (.ref it) acc { cenv with scope := relabel scope X.env }) (RR acc cenv.locals) s₄) X.xe s₃) X.xe s2 := by
  have hfp : ∀ b ∈ fp, b < s2.heap.objs.size := fun b hb => by
    obtain ⟨o, e, _⟩ := T.obj _ _ st b hb
    exact Heap.lt_size e
  refine wpAny_newObj_type (wpAny_newFunctionEnv S.nocell (by intro y hy; simp at hy) (fun h₁ hns₁ hsb₁ => ?_) S.kind)
  have sz3 : (s2.heap.push { cls := .type "list", dict := none, data := .seq ([] : List Value).toArray }).objs.size = s2.heap.objs.size + 1 := Heap.size_push ..
  dsimp only at hns₁ hsb₁ ⊢
  rw [sz3] at hns₁ hsb₁ ⊢
  obtain ⟨W, ⟨m0, w0⟩, turn⟩ := h s2.heap.objs.size (I.hok.fresh (Nat.le_refl _))
  have I4 := comp_start (N' := N') (ix := ix) (fp := fp) S I f2 hfp hns₁ hsb₁ (s2.toks + ([] : List (Str × Value)).length)
  generalize hX' : X.comp scope (clOf X.env.cells scope.names []) (s2.heap.objs.size + 1) { s2 with heap := s2.heap.push { cls := .type "list", dict := none, data := .seq ([] : List Value).toArray } } (upd H1 s2.heap.objs.size (.lst [])) fp N' = X' at I4
  have old : ∀ b o, s2.heap.get? b = some o → h₁.get? b = some o := fun b o e =>
    hsb₁.extBut b o (Nat.ne_of_lt (Nat.lt_succ_of_lt (Heap.lt_size e))) (Heap.get?_push_of_some _ (Heap.get?_push_of_some _ e))
  have st4 : tn 0 h₁ := T.keep _ _ _ st fun b _ o e => old b o e
  have n4 : ∀ b ∈ fp, (upd H1 s2.heap.objs.size (.lst [])) b = none := fun b hb => by rw [upd_ne (Nat.ne_of_lt (hfp b hb))]; exact (f2 b hb).1
  have stat : ∀ {H' : Hp}, (∀ b ∈ fp, H' b = none) → ∀ b ∈ fp, FpOk X' [] H' b := fun {H'} hn b hb => by
    subst hX'
    refine ⟨hn b hb, Nat.ne_of_lt (Nat.lt_succ_of_lt (hfp b hb)), fun hm => ?_, .inl hb, fun x c e => ?_, fun p hp => absurd (show p ∈ ([] : List (Addr × Obj)) from hp) (by simp)⟩
    · rcases List.mem_cons.mp (I.stkSub b hm) with z | z
      · exact (f2 b hb).2.1 z
      · exact (f2 b hb).2.2.1 z
    · exact (f2 b hb).2.2.2.2.1 x c (clOf_fwd (fun y hy e => I.ok.has _ (S.free y hy e)) (fun z hz => by cases hz) e)
  have loop : ∀ s₄ : Shared, s₄ = { s2 with heap := h₁, toks := s2.toks + ([] : List (Str × Value)).length } →
      codeAny (model X.prog X.w) X.A (.compLoop (.ListComp elt [⟨tg, iter, ifs, 0⟩] scope pos) 0 (.ref it) (.ref s2.heap.objs.size) (compEnvC scope (clOf X.env.cells scope.names []) (s2.heap.objs.size + 1) X.env)) (RR (.ref s2.heap.objs.size) (s2.heap.objs.size + 1)) s₄ := by
    rintro s₄ rfl
    refine compLoop_any (fun n s' => ∃ i acc H', Inv X' [] (tau ix σ) H' s' ∧ tn i s'.heap ∧ (∀ b ∈ fp, H' b = none) ∧ H' s2.heap.objs.size = some (.lst acc) ∧ W i n acc H') ?_ m0
      ⟨0, [], _, I4, st4, n4, upd_same, w0⟩
    rintro n s5 ⟨i, acc, H5, I5, st5, fr5, hD5, w5⟩
    have pE : X'.prog = X.prog := by subst hX'; rfl
    have wE : X'.w = X.w := by subst hX'; rfl
    have kE : X'.K = X.K := by subst hX'; rfl
    have aE : X'.A = X.A := by subst hX'; rfl
    have cE : X'.calm = true := by subst hX'; exact hcalm
    rcases turn i n acc H5 w5 hD5 with ⟨stop, q⟩ | ⟨go, hz, step⟩
    · have z := T.done X' pE wE kE cE i [] s5 (tau ix σ) H5 (fun _ _ => False) I5 (stat fr5) st5 stop
      rw [aE] at z
      refine thn z fun r s6 ⟨hr, I6⟩ => ?_
      subst hr
      have I6' := I6
      subst hX'
      have bs6 := I6.base
      have un : Un (frs X.stack) fp H1 H5 s2.heap s6.heap := Un.trans (Un.laid (o := .lst []) (fun b u q => Heap.get?_push_of_some _ q) (Nat.le_refl _) (I.hok.fresh (Nat.le_refl _))) bs6
      have IX : Inv X pins σ H5 s6 := Inv.call' I I6.os un I6.hok I6.bare fun b hb => ⟨(f2 b hb).2.2.2.1, (f2 b hb).2.1, (f2 b hb).2.2.2.2.1, (f2 b hb).2.2.2.2.2⟩
      refine hRR _ _ s6 H5 IX q ?_ I6.free ?_ ?_ ?_ ?_
      · obtain ⟨m, hn, _⟩ := I6.loc
        exact ⟨m, hn⟩
      · exact Nat.ne_of_gt (Nat.lt_succ_of_lt I.lt)
      · exact Nat.le_succ_of_le I.sz
      · intro x c e
        obtain ⟨v, z⟩ := I.cell x c e
        exact Nat.ne_of_lt (Nat.lt_succ_of_lt z.lt)
      · intro p hp
        exact Nat.ne_of_lt (Nat.lt_succ_of_lt (Heap.lt_size (I.pin p hp).1))
    · have z := T.item X' pE wE kE cE i [] s5 (tau ix σ) H5 (fun _ _ => False) I5 (stat fr5) st5 go
      rw [aE] at z
      refine thn z fun r s6 ⟨u, hr, h6⟩ => ?_
      subst hr
      refine thn h6 fun _ s7 ⟨x, H7, I7, r7, y7, st7, fr7⟩ => ?_
      have I7' := I7.pinned (stat fr7) (T.obj _ _ st7)
      have hg' := hg (s2.heap.objs.size + 1) { s2 with heap := s2.heap.push { cls := .type "list", dict := none, data := .seq ([] : List Value).toArray } } (upd H1 s2.heap.objs.size (.lst []))
      have ht' := ht (s2.heap.objs.size + 1) { s2 with heap := s2.heap.push { cls := .type "list", dict := none, data := .seq ([] : List Value).toArray } } (upd H1 s2.heap.objs.size (.lst []))
      have he' := he (s2.heap.objs.size + 1) { s2 with heap := s2.heap.push { cls := .type "list", dict := none, data := .seq ([] : List Value).toArray } } (upd H1 s2.heap.objs.size (.lst []))
      subst hX'
      have back : ∀ {τ : St} {H8 : Hp} {s8 : Shared}, (τ.length = ix.length ∧ ∀ (k : Nat) v, (tau ix σ)[k]? = some (some v) → τ[k]? = some (some v)) →
          Inv (X.comp scope (clOf X.env.cells scope.names []) (s2.heap.objs.size + 1) { s2 with heap := s2.heap.push { cls := .type "list", dict := none, data := .seq ([] : List Value).toArray } } (upd H1 s2.heap.objs.size (.lst [])) fp N') ([] ++ pinsAt fp s7.heap) τ H8 s8 →
          ∀ {acc' : List V} {m' : Nat}, H8 s2.heap.objs.size = some (.lst acc') → W (i + 1) m' acc' H8 → m' < n →
          ∃ m, m < n ∧ ∃ i acc H', Inv (X.comp scope (clOf X.env.cells scope.names []) (s2.heap.objs.size + 1) { s2 with heap := s2.heap.push { cls := .type "list", dict := none, data := .seq ([] : List Value).toArray } } (upd H1 s2.heap.objs.size (.lst [])) fp N') [] (tau ix σ) H' s8 ∧ tn i s8.heap ∧ (∀ b ∈ fp, H' b = none) ∧ H' s2.heap.objs.size = some (.lst acc) ∧ W i m acc H' := fun {τ H8 s8} hτ I8 {acc' m'} hD8 w8 hm => by
        refine ⟨m', hm, i + 1, acc', H8, (Inv.unpinned I8).weak (by rw [hτ.1]; unfold tau; rw [List.length_map]) hτ.2, T.keep _ _ _ st7 fun b hb o e => (I8.pin (b, o) (List.mem_append_right _ (List.mem_append_right _ (mem_pinsAt hb e)))).1, fun b hb => ?_, hD8, w8⟩
        obtain ⟨o, e, d⟩ := T.obj _ _ st7 b hb
        exact (I8.pin (b, o) (List.mem_append_right _ (List.mem_append_right _ (mem_pinsAt hb e)))).2.1
      refine thn (hg' _ s7 (tau ix σ) H7 x u _ I7' r7 (step x H7 y7)) fun _ s8 ⟨τ, H8, I8, hτ, q8⟩ => ?_
      refine thn (ht' _ s8 τ H8 _ I8 q8) fun b s9 ⟨H9, I9, q9⟩ => ?_
      cases b with
      | false =>
        obtain ⟨hD9, m', hm, w9⟩ := q9
        exact back hτ I9 hD9 w9 hm
      | true =>
        refine thn (he' _ s9 τ H9 _ I9 q9) fun yv s10 ⟨y, H10, I10, r10, hD10, m', hm, w10⟩ => ?_
        refine thn (mt_append _ s10 τ H10 (.ref s2.heap.objs.size) [y] (.ref s2.heap.objs.size) [yv] (fun v H => v = .non ∧ H = upd H10 s2.heap.objs.size (.lst (acc ++ [y]))) I10 rfl (.cons r10 .nil) ⟨_, acc, y, rfl, rfl, hD10, hz, rfl, rfl⟩) fun _ s11 ⟨v, H11, I11, r11, hv, hH⟩ => ?_
        subst hH
        exact back hτ I11 upd_same w10 hm
  exact codeAny_compStart_list (loop _ rfl) (T.self _ 0 _ _ _ st4 (loop _ rfl))

theorem pe_comp {elt tg iter : Expr} {ifs : List Expr} {scope : Scope} {pos : Pos} {N' : List Str} {ix : List (Option Nat)} {wi : TI} {g : TG} {tt : TT} {te : TE}
    (S : CompScope X N' ix scope) (hcalm : X.calm = true) (hi : PI X tg iter wi)
    (hg : ∀ C s₀ H₀ fp, PG (X.comp scope (clOf X.env.cells scope.names []) C s₀ H₀ fp N') tg g)
    (ht : ∀ C s₀ H₀ fp, PTs (X.comp scope (clOf X.env.cells scope.names []) C s₀ H₀ fp N') ifs tt)
    (he : ∀ C s₀ H₀ fp, PE (X.comp scope (clOf X.env.cells scope.names []) C s₀ H₀ fp N') elt te)
    (hs : ∀ x, foldedSetIterable iter X.env x = pure x := by intro _; rfl) :
    PE X (.ListComp elt [⟨tg, iter, ifs, 0⟩] scope pos) (tComp ix wi g tt te) := by
  intro pins s σ H Q I h
  rw [eval_ListComp]
  refine wpAny_comprehension_free (use := none) rfl hs (closure_of fun y hy e => I.ok.has _ (S.free y hy e)) S.kind S.names (thn (hi pins s σ H _ I h) fun v s1 h1 => thn h1 fun itv s2 h2 => ?_)
  obtain ⟨it, fp, tn, J, H2, e, I2, T, st2, f2, hW⟩ := h2
  subst e
  refine comp_block (RR := fun acc C => compPost (model X.prog X.w) X.A X.xe none (EP X pins σ Q) acc C) S hcalm I2 T st2 f2 (fun C s₀ H₀ => hg C s₀ H₀ fp) (fun C s₀ H₀ => ht C s₀ H₀ fp) (fun C s₀ H₀ => he C s₀ H₀ fp) hW ?_
  intro D C s' H' I' q hn hC hL h1 h2 h3
  obtain ⟨m, hn⟩ := hn
  refine ⟨m, hn, fun h' hs' => ?_⟩
  have I'' : Inv X pins σ H' { s' with heap := h' } := I'.turned (t' := s'.toks) (fun b o hb e => hs'.extBut b o hb e) hC hL.symm.symm (.inr h1) h2 h3
  exact ⟨.ref D, H', I'', rfl, q⟩

theorem ps_setC {elt tg iter : Expr} {ifs : List Expr} {scope : Scope} {pos pos' spos : Pos} {N' : List Str} {ix : List (Option Nat)} {wi : TI} {g : TG} {tt : TT} {te : TE} {k : Nat} {x : Str}
    (hN : X.N.Nodup) (hk : X.N[k]? = some x) (hx : X.env.scope.names.lookup x = some .local)
    (S : CompScope X N' ix scope) (hcalm : X.calm = true) (hi : PI X tg iter wi)
    (hg : ∀ C s₀ H₀ fp, PG (X.comp scope (clOf X.env.cells scope.names []) C s₀ H₀ fp N') tg g)
    (ht : ∀ C s₀ H₀ fp, PTs (X.comp scope (clOf X.env.cells scope.names []) C s₀ H₀ fp N') ifs tt)
    (he : ∀ C s₀ H₀ fp, PE (X.comp scope (clOf X.env.cells scope.names []) C s₀ H₀ fp N') elt te)
    (hsw : swapsWith (.ListComp elt [⟨tg, iter, ifs, 0⟩] scope pos) (some (.Name x pos')) spos.line X.env = pure true)
    (hs : ∀ x, foldedSetIterable iter X.env x = pure x := by intro _; rfl) :
    PS X (.Assign [.Name x pos'] (.ListComp elt [⟨tg, iter, ifs, 0⟩] scope pos) spos) (tAsg (tComp ix wi g tt te) (gName k)) := by
  intro pins s σ H D I h
  rw [exec_Assign_Name_used _ _ _ _ hsw]
  refine wpAny_bind (wpAny_standAt (wpAny_bind ?_))
  show wpAny _ _ (do let _ ← comprehension (.ListComp elt [⟨tg, iter, ifs, 0⟩] scope pos) scope X.env _ (newList []) false (eval iter X.env) (some (assign (.Name x pos') X.env))) _ _ s
  refine wpAny_bind (wpAny_mono (wpAny_comprehension_free (use := some (assign (.Name x pos') X.env)) (Q := fun _ s' => SP X pins D .next s') rfl hs (closure_of fun y hy e => I.ok.has _ (S.free y hy e)) S.kind S.names
    (thn (hi pins s σ H _ I h) fun v s1 h1 => thn h1 fun itv s2 h2 => ?_)) (fun _ s' hq => wpAny_pure (wpAny_pure hq)) fun _ _ e => e)
  obtain ⟨it, fp, tn, J, H2, e, I2, T, st2, f2, hW⟩ := h2
  subst e
  refine comp_block (RR := fun acc C => compPost (model X.prog X.w) X.A X.xe (some (assign (.Name x pos') X.env)) (fun _ s' => SP X pins D .next s') acc C) (Q := fun x H1 => gName k x σ H1 D.nx) S hcalm I2 T st2 f2 (fun C s₀ H₀ => hg C s₀ H₀ fp) (fun C s₀ H₀ => ht C s₀ H₀ fp) (fun C s₀ H₀ => he C s₀ H₀ fp) hW ?_
  intro Dd C s' H' I' q hn hC hL h1 h2 h3
  obtain ⟨m, hn⟩ := hn
  show wpAny _ _ (assign (.Name x pos') X.env (.ref Dd)) _ _ _
  refine wpAny_assign_Name (store_ok2 I' hN hk (.inl hx) (v := .ref Dd) rfl (fun s'' I'' hsame => ?_) (.inr hx))
  obtain ⟨a, hsb, ha⟩ := hsame
  have haC : C ≠ a := by
    rcases ha with z | z
    · rw [z]; exact hL
    · exact fun e => h2 x a z e.symm
  refine ⟨m, hn.sameBut hsb haC, fun h' hs' => ?_⟩
  have I3 : Inv X pins (σ.set k (some (.ref Dd))) H' { s'' with heap := h' } := I''.turned (t' := s''.toks) (fun b o hb e => hs'.extBut b o hb e) hC hL (.inr h1) h2 h3
  exact ⟨_, H', I3, q⟩
end
end L2
set_option Elab.async false
set_option linter.all false
set_option maxRecDepth 100000
namespace L2
open PySem PySem.Spec PyProof.Rows
section
variable {X : Cx} {a b : Expr} {ta tb : TE} {pos : Pos}
theorem op_gt_str : OpR X (compareOp .Gt) (fun x y H Q => ∃ i j, x = .str i ∧ y = .str j ∧ Q (.bl (decide (j.cps.toList < i.cps.toList))) H) := by
  intro pins s σ H x y v u Q I rx ry h
  obtain ⟨i, j, rfl, rfl, q⟩ := h
  obtain ⟨t, rfl⟩ := rx
  obtain ⟨t', rfl⟩ := ry
  exact PySem.P.gt_str ⟨.bl _, H, I, rfl, q⟩
theorem op_mul_str : OpR X (binaryOp .Mult) (fun x y H Q => ∃ i j, x = .str i ∧ y = .int j ∧ (i.length ≤ 16 ∧ 0 ≤ j ∧ j ≤ 1000) ∧ Q (.str (Txt.mul i j)) H) := by
  intro pins s σ H x y v u Q I rx ry h
  obtain ⟨i, j, rfl, rfl, ⟨h1, h2, h3⟩, q⟩ := h
  obtain ⟨t, rfl⟩ := rx
  obtain ⟨t', rfl⟩ := ry
  exact SB.mul (mulOk_of 16 1000 h1 (by omega) (by omega) (by decide) (by decide)) fun t' k => ⟨.str _, H, I.tok _, ⟨_, rfl⟩, q⟩

def rSlS : V → Option Int → Option Int → Hp → VK → Prop := fun x lo hi H Q => ∃ z, x = .str z ∧ z.length ≤ sizeLine ∧ Q (.str (Txt.slice z lo hi)) H
theorem sl_str : SlR X rSlS := by
  intro pins s σ H x v vl vu lo hi sl Q I rx hs pl pu h
  obtain ⟨z, rfl, hz, q⟩ := h
  obtain ⟨t, rfl⟩ := rx
  refine ⟨"str", _, F.slot_str_getitem.lookup, typeIs_str _ _ _, ?_⟩
  have fin : ∀ t' k, EP X pins σ Q (.str (Txt.slice z lo hi) t') { s with toks := k } := fun t' k => ⟨.str _, H, I.tok _, ⟨_, rfl⟩, q⟩
  obtain ⟨os, e1, e2, e3⟩ := hs
  cases pl with
  | none =>
    cases pu with
    | none => exact wpAny_getItem_str_slice (l := none) (u := none) (st := none) ⟨os, e1, e2, e3⟩ rfl (post_val_or_str ⟨Nat.le_trans (Txt.slice_le z _ _) hz, fin⟩)
    | int j u => exact wpAny_getItem_str_slice (l := none) (u := some (j, u)) (st := none) ⟨os, e1, e2, e3⟩ rfl (post_val_or_str ⟨Nat.le_trans (Txt.slice_le z _ _) hz, fin⟩)
  | int i t2 =>
    cases pu with
    | none => exact wpAny_getItem_str_slice (l := some (i, t2)) (u := none) (st := none) ⟨os, e1, e2, e3⟩ rfl (post_val_or_str ⟨Nat.le_trans (Txt.slice_le z _ _) hz, fin⟩)
    | int j u => exact wpAny_getItem_str_slice (l := some (i, t2)) (u := some (j, u)) (st := none) ⟨os, e1, e2, e3⟩ rfl (post_val_or_str ⟨Nat.le_trans (Txt.slice_le z _ _) hz, fin⟩)
theorem strsAre_of {ys : List Str} : ∀ {us : List Value}, Vals (ys.map V.str) us → StrsAre us ys := by
  induction ys with
  | nil => intro us r; rw [List.map_nil] at r; cases r; exact .nil
  | cons n ns ih =>
    intro us r
    rw [List.map_cons] at r
    cases r with
    | cons r1 r2 =>
      obtain ⟨t, e⟩ := r1
      subst e
      exact .cons n t (ih r2)
end
end L2
set_option Elab.async false
set_option linter.all false
set_option maxRecDepth 100000
namespace L2
open PySem PySem.Spec PyProof.Rows
inductive D where
  | non | bl (b : Bool) | int (i : Int) | str (x : Str) | tup (ds : List D) | lst (ds : List D)
mutual
def deq : D → D → Bool
  | .non, .non => true
  | .bl a, .bl b => a == b
  | .bl a, .int j => (if a then (1 : Int) else 0) == j
  | .int i, .bl b => i == (if b then (1 : Int) else 0)
  | .int i, .int j => i == j
  | .str x, .str y => x == y
  | .tup a, .tup b => deqs a b
  | .lst a, .lst b => deqs a b
  | _, _ => false
def deqs : List D → List D → Bool
  | [], [] => true
  | x :: xs, y :: ys => deq x y && deqs xs ys
  | _, _ => false
end
mutual
def D.deep : D → Nat
  | .tup ds => D.deeps ds + 1
  | .lst ds => D.deeps ds + 1
  | _ => 0
def D.deeps : List D → Nat
  | [] => 0
  | d :: ds => max d.deep (D.deeps ds)
end
mutual
theorem deq_refl : ∀ d : D, deq d d = true
  | .non => by simp [deq]
  | .bl _ => by simp [deq]
  | .int _ => by simp [deq]
  | .str _ => by simp [deq]
  | .tup ds => by simp [deq, deqs_refl ds]
  | .lst ds => by simp [deq, deqs_refl ds]
theorem deqs_refl : ∀ ds : List D, deqs ds ds = true
  | [] => by simp [deqs]
  | d :: ds => by simp [deqs, deq_refl d, deqs_refl ds]
end
theorem deep_mem : ∀ {ds : List D} {d : D} {j : Nat}, ds[j]? = some d → d.deep ≤ D.deeps ds
  | [], _, _, h => by simp at h
  | d :: ds, e, 0, h => by simp at h; subst h; simp [D.deeps]; omega
  | d :: ds, e, j + 1, h => by
    have := deep_mem (ds := ds) (j := j) (by simpa using h)
    simp [D.deeps]; omega
theorem deqs_range : ∀ {ds ds' : List D}, ((List.range (min ds.length ds'.length)).all (fun j => deq (ds.getD j .non) (ds'.getD j .non)) && (ds.length == ds'.length)) = deqs ds ds'
  | [], [] => by simp [deqs]
  | [], _ :: _ => by simp [deqs]
  | _ :: _, [] => by simp [deqs]
  | d :: ds, d' :: ds' => by
    have ih := deqs_range (ds := ds) (ds' := ds')
    have e : min (d :: ds).length (d' :: ds').length = min ds.length ds'.length + 1 := by simp
    rw [e, List.range_succ_eq_map, List.all_cons, List.all_map]
    simp only [deqs]
    rw [← ih]
    simp [Function.comp_def, Bool.and_assoc]
end L2
set_option Elab.async false
set_option linter.all false
set_option maxRecDepth 100000
namespace L2
open PySem PySem.Spec PyProof.Rows
section
variable {X : Cx} {a b : Expr} {ta tb : TE} {pos : Pos}
def rLtA : R2 := fun x y H Q => rI0 (fun i j => .bl (decide (i < j))) x y H Q ∨ ∃ i j, x = .str i ∧ y = .str j ∧ Q (.bl (decide (i.cps.toList < j.cps.toList))) H
theorem op_ltA : OpR X (compareOp .Lt) rLtA := op_lt.or op_lt_str
def rGtA : R2 := fun x y H Q => rI0 (fun i j => .bl (decide (j < i))) x y H Q ∨ ∃ i j, x = .str i ∧ y = .str j ∧ Q (.bl (decide (j.cps.toList < i.cps.toList))) H
theorem op_gtA : OpR X (compareOp .Gt) rGtA := op_gt.or op_gt_str
theorem comp_free (X : Cx) (scope : Scope) (h : (scope.names.all fun y => y.2 != .free || (X.env.kindOf y.1 == some .cell || X.env.kindOf y.1 == some .free)) = true) : ∀ y ∈ scope.names, y.2 = .free → X.env.kindOf y.1 = some .cell ∨ X.env.kindOf y.1 = some .free := by
  intro y hy e
  have := List.all_eq_true.mp h y hy
  rw [e] at this
  simpa using this
theorem comp_ix (X : Cx) (N' : List Str) (ix : List (Option Nat)) (scope : Scope) (h : ((List.range ix.length).all fun i => match ix[i]?, N'[i]? with
    | some (some j), some x => decide (X.N[j]? = some x) && decide (scope.names.lookup x = some .free)
    | _, _ => true) = true) : ∀ (i j : Nat) (x : Str), ix[i]? = some (some j) → N'[i]? = some x → X.N[j]? = some x ∧ scope.names.lookup x = some .free := by
  intro i j x h1 h2
  have hi : i < ix.length := (List.getElem?_eq_some_iff.mp h1).1
  have := List.all_eq_true.mp h i (List.mem_range.mpr hi)
  rw [h1, h2] at this
  simpa using this

def instB (t c : String) : Bool := t == c || (t == "bool" && c == "int")
theorem kit_instB (K : PySem.W.Frag) {t c : String} (ht : t = "NoneType" ∨ t = "bool" ∨ t = "int" ∨ t = "str" ∨ t = "list" ∨ t = "tuple" ∨ t = "dict") (hc : c = "str" ∨ c = "int" ∨ c = "bool" ∨ c = "tuple" ∨ c = "list") :
    PySem.W.kitOne K (.type t) (.type c) = some (instB t c) := by
  rcases ht with rfl | rfl | rfl | rfl | rfl | rfl | rfl <;> rcases hc with rfl | rfl | rfl | rfl | rfl <;> rfl
theorem hu150 {A : Around} {k : Nat} (hr : Room k A) : A.units + 150 < cLine := by
  have := hr.un
  omega
def notStar : Expr → Bool
  | .Starred _ _ => false
  | _ => true
theorem star_cons {e : Expr} {es : List Expr} {env : Env} (h : notStar e = true) : starEach (e :: es) env = (false, eval e env) :: starEach es env := by
  cases e <;> first | rfl | cases h
theorem pa_c {e : Expr} {es : List Expr} {te : TE} {t : TA} (ha : PE X e te) (hr : PA X es t) (h : notStar e = true := by rfl) : PA X (e :: es) (tCons te t) := pa_cons ha hr (star_cons h)
end
structure NmOk (sc : Scope) (x : Str) (k : NameKind) : Prop where
  lk : sc.names.lookup x = some k
  db : (x == ("__debug__" : Str)) = false
  cd : (x == ("__classdict__" : Str)) = false
  nn : x ≠ "__name__"
def VisK (k : NameKind) : Bool := match k with | .local => true | .cell => true | .free => true | _ => false
theorem relabel_lookup_glob {env : Env} {x : Str} : ∀ {names : List (Str × NameKind)}, names.lookup x = some .globalImplicit →
    (names.map fun (n, k) => if (k == NameKind.free && env.scope.kind == .function && env.kindOf n == some .cell) = true then (n, NameKind.cell) else (n, k)).lookup x = some .globalImplicit
  | [], h => by cases h
  | (n, k) :: r, h => by
    have ih := @relabel_lookup_glob env x r
    rw [List.map_cons]
    rw [List.lookup_cons] at h
    cases hx : x == n with
    | true =>
      rw [hx] at h
      have hk : k = .globalImplicit := Option.some.inj h
      subst hk
      have hc' : (if (NameKind.globalImplicit == NameKind.free && env.scope.kind == .function && env.kindOf n == some .cell) = true then (n, NameKind.cell) else (n, NameKind.globalImplicit)) = (n, NameKind.globalImplicit) := if_neg (by simp)
      simp only [hc', List.lookup_cons, hx]
    | false =>
      rw [hx] at h
      have q := ih h
      by_cases hc : (k == NameKind.free && env.scope.kind == .function && env.kindOf n == some .cell) = true
      · have hc' : (if (k == NameKind.free && env.scope.kind == .function && env.kindOf n == some .cell) = true then (n, NameKind.cell) else (n, k)) = (n, NameKind.cell) := if_pos hc
        simp only [hc', List.lookup_cons, hx]
        exact q
      · have hc' : (if (k == NameKind.free && env.scope.kind == .function && env.kindOf n == some .cell) = true then (n, NameKind.cell) else (n, k)) = (n, k) := if_neg hc
        simp only [hc', List.lookup_cons, hx]
        exact q
section
variable {X : Cx} {x : Str} {p pos : Pos} {e : Expr} {es : List Expr} {t : TA} {k : NameKind}
theorem pvk (i : Nat) (q : NmOk X.env.scope x k) (hN : X.N[i]? = some x := by rfl) (hk : VisK k = true := by rfl) : PE X (.Name x pos) (tVar i) :=
  pe_var hN (by cases k <;> first | exact .inl q.lk | exact .inr (.inl q.lk) | exact .inr (.inr q.lk) | exact absurd hk (by decide)) q.db q.cd
theorem NmOk.own {scope : Scope} {cl : List (Str × Addr)} {C : Addr} {s₀ : Shared} {H₀ : Hp} {fp : List Addr} {N' : List Str} (q : NmOk scope x .local) : NmOk (X.comp scope cl C s₀ H₀ fp N').env.scope x .local :=
  ⟨lookup_relabel_local q.lk, q.db, q.cd, q.nn⟩
theorem NmOk.glob {scope : Scope} {cl : List (Str × Addr)} {C : Addr} {s₀ : Shared} {H₀ : Hp} {fp : List Addr} {N' : List Str} (q : NmOk scope x .globalImplicit) : NmOk (X.comp scope cl C s₀ H₀ fp N').env.scope x .globalImplicit :=
  ⟨relabel_lookup_glob q.lk, q.db, q.cd, q.nn⟩
theorem pvf (i : Nat) {scope : Scope} {cl : List (Str × Addr)} {C : Addr} {s₀ : Shared} {H₀ : Hp} {fp : List Addr} {N' : List Str} (q : NmOk scope x .free) (hN : N'[i]? = some x := by rfl) : PE (X.comp scope cl C s₀ H₀ fp N') (.Name x pos) (tVar i) :=
  pe_var (X := X.comp scope cl C s₀ H₀ fp N') hN (by
    rcases relabel_lookup_free (env := X.env) q.lk with h | h
    · exact .inr (.inl h)
    · exact .inr (.inr h)) q.db q.cd
theorem pgo {i : Nat} {scope : Scope} {cl : List (Str × Addr)} {C : Addr} {s₀ : Shared} {H₀ : Hp} {fp : List Addr} {N' : List Str} (q : NmOk scope x .local) (hd : N'.Nodup) (hN : N'[i]? = some x := by rfl) : PG (X.comp scope cl C s₀ H₀ fp N') (.Name x pos) (gName i) :=
  pg_name (X := X.comp scope cl C s₀ H₀ fp N') hd hN (.inl (lookup_relabel_local q.lk)) (.inr (lookup_relabel_local q.lk))
section
variable {CX : CXT} {n : Nat} {f : Addr} {fd : FuncData} {ps : List Str} {sp : Sp} {dvs : List V} {ds : List Value} {E : XK} {id T : String} {r : List V → Hp → VK → Prop}
theorem pe_callk (F : FnOk X.prog X.w X.K X.mg X.base CX n f fd ps sp) (hr : Room n X.A) (q : NmOk X.env.scope x .globalImplicit) (hm : X.mg x = some (.ref f)) (hk : PySem.W.keepIn X.K (.ref f) = true) (hb : Binds X.K fd ps ds) (hd : Vals dvs ds) (hx : Passes CX X E)
    (ha : PA X (e :: es) t) (he : notStar e = true := by rfl) (hpl : (backTo pos (starEach es X.env)).any (·.1) = false := by rfl) :
    PE X (.Call (.Name x p) (e :: es) [] pos) (tCall sp dvs E t) := pe_call F hr q.lk hm hk hb hd hx ha q.db (star_cons he) hpl
theorem pe_callBk (hc : CallR X (.builtin id) r) (q : NmOk X.env.scope x .globalImplicit) (hm : X.mg x = none) (hv : bootBuiltins x = some (.builtin id)) (ha : PA X (e :: es) t)
    (he : notStar e = true := by rfl) (hpl : (backTo pos (starEach es X.env)).any (·.1) = false := by rfl) : PE X (.Call (.Name x p) (e :: es) [] pos) (tCB r t) := pe_callB hc q.lk hm hv ha q.nn q.db (star_cons he) hpl
theorem pe_bltnk {v : V} {u : Value} (q : NmOk X.env.scope x .globalImplicit) (hm : X.mg x = none) (hv : bootBuiltins x = some u) (r : RelV v u) : PE X (.Name x pos) (tC v) := pe_bltn q.lk hm hv r q.nn q.db
end
end
def notComp : Expr → Bool
  | .ListComp _ _ _ _ => false
  | .SetComp _ _ _ _ => false
  | .DictComp _ _ _ _ _ => false
  | _ => true
theorem swaps_no {value : Expr} {tgt : Option Expr} {l : Nat} {env : Env} (h : notComp value = true) : swapsWith value tgt l env = pure false := by
  cases value <;> first | rfl | cases h
section
variable {X : Cx}
theorem ps_setk {i : Nat} {x : Str} {e : Expr} {te : TE} {pos pos' : Pos} (hN : X.N.Nodup) (hi : X.N[i]? = some x) (hx : Loc X.env.scope x) (he : PE X e te) (hs : notComp e = true := by rfl) (hf : X.fn x = true := by rfl) :
    PS X (.Assign [.Name x pos'] e pos) (tAsg te (gName i)) := ps_set hN hi hx he (swaps_no hs) (.inl hf)
end
end L2
set_option Elab.async false
set_option linter.all false
set_option maxRecDepth 100000
namespace L2
open PySem PySem.Spec PyProof.Rows
section
variable {D : Ends} {σ : St} {H : Hp} {Q : VK} {B : Bool → Hp → Prop} {te ta tb tc : TE} {t u : TS} {g : TG} {tt uu : TT} {tr : TA} {r r' : R2} {K : PySem.W.Frag}
def Kept0 (ix : List (Option Nat)) (σ τ : St) : Prop := τ.length = ix.length ∧ ∀ (k : Nat) v, (tau ix σ)[k]? = some (some v) → τ[k]? = some (some v)
variable {ix : List (Option Nat)}
end
theorem upd_new {H : Hp} {b p : Addr} {o u : HO} (e : H b = some u) (hp : H p = none) : upd H p o b = some u := by rw [upd_ne (ne_of_none e hp)]; exact e
theorem same_new {H : Hp} {p : Addr} (h : H p = none) (o : HO) : Same H (upd H p o) := fun b u q => by rw [upd_ne (ne_of_none q h)]; exact q
theorem at_any {α : Type} {xs : List α} {i : Int} (h0 : 0 ≤ i) (h : i < (xs.length : Int)) : ∃ v, v ∈ xs ∧ atI xs i = some v := by
  have hk : i.toNat < xs.length := by omega
  have ek : i = ((i.toNat : Nat) : Int) := by omega
  refine ⟨xs[i.toNat], List.getElem_mem hk, ?_⟩
  have z : atI xs ((i.toNat : Nat) : Int) = some xs[i.toNat] := atI_nat (List.getElem?_eq_getElem hk)
  rwa [← ek] at z
end L2
namespace L2
open PySem PySem.Spec PyProof.Rows
section
variable {κ : Type} [DecidableEq κ]
theorem KV.length {kvs : List (κ × V)} {vs : List (κ × Value)} (r : KV kvs vs) : kvs.length = vs.length := Paired.length r
end
section
variable {P : Program} {w : World} {H : Hp} {h : Heap} {a : Addr}
theorem rd_of {u : HO} (ok : HOk P w H h) (e : Rd H a u) : ObjOk P w H h a u := e.ok ok
theorem dk_rd {kvs : List (Key × V)} (ok : HOk P w H h) (e : Rd H a (.dK kvs)) : kvs.length ≤ sizeLine ∧ (a == sysModules) = false ∧ ∃ vs, KV kvs vs ∧ h.DictOf (mixKind P w) a vs :=
  show ObjOk P w H h a (.dK kvs) from rd_of ok e
end
section
variable {X : Cx} {pins : List (Addr × Obj)} {σ : St} {H : Hp} {s : Shared} {a : Addr} {kvs : List (Key × V)} {k : Key} {u : Value} {A : Around} {E : Value → Shared → Prop}
theorem d_len {Q : Value → Shared → Prop} (I : Inv X pins σ H s) (e : Rd H a (.dK kvs)) (h : ∀ t s', Inv X pins σ H s' → Q (.int kvs.length t) s') : wpAny (model X.prog X.w) A (call (.builtin "len") [.ref a]) Q E s := by
  obtain ⟨z, hd, vs, rel, dd⟩ := dk_rd I.hok e
  refine call_len_dict hd dd (by rw [← rel.length]; rw [sizeLine_eq] at z; omega) ?_
  rw [← rel.length]
  exact h _ _ (I.tok _)
end
end L2
namespace L2
open PySem PySem.Spec PyProof.Rows
section
variable {X : Cx}
theorem call_lenD : CallR X (.builtin "len") (fun xs H Q => ∃ a kvs, xs = [V.ref a] ∧ H a = some (.dK kvs) ∧ Q (.int kvs.length) H) := by
  intro pins s σ H xs us Q I r h
  obtain ⟨a, kvs, rfl, ha, q⟩ := h
  obtain ⟨u, rfl, ru⟩ := vals1 r
  cases ru
  exact d_len I (.inl ha) fun t s' I' => ⟨.int kvs.length, H, I', ⟨t, rfl⟩, q⟩
end
end L2
set_option Elab.async false
set_option linter.all false
set_option maxRecDepth 100000
namespace L2
open PySem PySem.Spec PyProof.Rows
section
open PySem.SeqAt
variable {X : Cx} {pins : List (Addr × Obj)} {σ : St} {H : Hp} {s : Shared}
theorem kitAny_of (K : PySem.W.Frag) {t : String} (ht : t = "NoneType" ∨ t = "bool" ∨ t = "int" ∨ t = "str" ∨ t = "list" ∨ t = "tuple" ∨ t = "dict") : ∀ {cs : List String}, (∀ c ∈ cs, c = "str" ∨ c = "int" ∨ c = "bool" ∨ c = "tuple" ∨ c = "list") →
    PySem.W.kitAny K (.type t) (cs.map Value.type) = some (cs.any (instB t))
  | [], _ => rfl
  | c :: r, h => by
    have e := kit_instB K ht (h c List.mem_cons_self)
    have ih := kitAny_of K ht (cs := r) fun c' hc => h c' (List.mem_cons_of_mem _ hc)
    rw [List.map_cons, List.any_cons]
    unfold PySem.W.kitAny
    rw [e]
    cases instB t c with
    | true => rfl
    | false => simpa using ih
theorem vals_ty {cs : List String} : ∀ {us : List Value}, Vals (cs.map V.ty) us → us = cs.map Value.type := by
  induction cs with
  | nil => intro us r; cases r; rfl
  | cons b bs ih => intro us r; cases r with | cons r1 r2 => rw [ih r2, show _ = Value.type b from r1]; rfl
end
theorem hu151 {A : Around} {k : Nat} (hr : Room k A) : A.units + 151 < cLine := by
  have := hr.un
  omega
end L2
set_option Elab.async false
set_option linter.all false
set_option maxRecDepth 100000
namespace L2
open PySem PySem.Spec PyProof.Rows HT
section
variable {prog : Program} {w : World} {A : Around} {E : Value → Shared → Prop} {s : Shared}
theorem whole_tuple {t sl : Addr} {items : Array Value} {vl vu : Value} {lo hi : Option Int} {Q : Value → Shared → Prop} (ht : IsTup s.heap t items) (hs : s.heap.IsSliceOf sl vl vu .none) (pl : IsPart vl lo) (pu : IsPart vu hi)
    (hw : sIx items.size 0 lo = 0 ∧ sIx items.size items.size hi = items.size) (h : Q (.ref t) s) : wpAny (model prog w) A (getItem (.ref t) (.ref sl)) Q E s := by
  have hTs : s.TypeIs (.ref sl) "slice" := by
    obtain ⟨os, hos, hcs, _⟩ := id hs
    exact ⟨os, hos, hcs⟩
  unfold getItem
  try with_reducible refine wpAny_holding ?_
  first | refine wpAny_bind (wpAny_pure ?_) | skip
  refine wpAny_bind (wpAny_sequenceKey ht.typeIs (by decide) ?_)
  refine wpAny_bind (wpAny_callSpecial?_slot (name := Str.ofString "__getitem__") ht.typeIs PyProof.Rows.slot_tuple_getitem
    (wpAny_call_entry PyProof.Rows.slot_tuple_getitem ht.typeIs entry_tuple_getitem ?_ (args_tuple_getitem _ _)))
  show wpAny _ _ (Builtin.Tuple.tupleItemsOf (.ref t) >>= _) _ _ s
  refine wpAny_bind (tupleItemsOf_ ht ?_)
  refine wpAny_bind (wpAny_typeOf hTs ?_)
  rw [if_pos (by decide)]
  refine wpAny_bind (sliceApplied_gen hs pl pu ?_)
  have yes : (((sIx items.size 0 lo : Nat) : Int) == 0 && (1 : Int) == 1 && (sIx items.size items.size hi - sIx items.size 0 lo) == items.size) = true := by
    rw [hw.1, hw.2]; simp
  show wpAny _ _ (if (((sIx items.size 0 lo : Nat) : Int) == 0 && (1 : Int) == 1 && (sIx items.size items.size hi - sIx items.size 0 lo) == items.size) = true then _ else _) _ _ s
  rw [if_pos yes]
  refine wpAny_bind (m := Builtin.Tuple.tupleIsExact _) (wpAny_bind (wpAny_typeOf ht.typeIs (wpAny_pure ?_)))
  show wpAny _ _ (if (Value.type "tuple" == Value.type "tuple") = true then _ else _) _ _ s
  rw [if_pos (by decide)]
  first
    | exact wpAny_bind (wpAny_pure (wpAny_pure ⟨_, rfl, wpAny_pure h⟩))
    | exact wpAny_bind (wpAny_rule (wpAny_pure ⟨_, rfl, wpAny_pure h⟩))
end
end L2
set_option Elab.async false
set_option linter.all false
set_option maxRecDepth 100000
set_option Elab.async false
set_option linter.all false
set_option maxRecDepth 100000
namespace ZS
open PySem PyProof.Rows
def itCls (x : Str) : String := if x.cps.all (· < 128) = true then "str_ascii_iterator" else "str_iterator"
abbrev itObj (x : Str) (t : Tok) : Obj := { cls := .type (itCls x), data := .fields #[.str x t, .int 0 0] }
theorem draws {prog : Program} {w : World} {A : Around} (hh : A.handled = none) (it : Addr) (x : Str) (t : Tok) :
    Draws prog w A it [it] x.cps.size (fun i v => ∃ c u, x.cps[i]? = some c ∧ v = .str ⟨#[c]⟩ u) (fun i h => h.IsStrIter it (itCls x) x t i) := by
  unfold itCls
  by_cases ha : x.cps.all (· < 128) = true
  · rw [if_pos ha]; exact Draws.strAscii hh it x t
  · rw [if_neg ha]; exact Draws.strWide hh it x t
structure ZA (z TI TO i1 i2 : Addr) (f1 f2 : List Addr) : Prop where
  TIz : TI ≠ z
  TOz : TO ≠ z
  i1z : i1 ≠ z
  i2z : i2 ≠ z
  TITO : TI ≠ TO
  TIi1 : TI ≠ i1
  TIi2 : TI ≠ i2
  TOi1 : TO ≠ i1
  TOi2 : TO ≠ i2
  i12 : i1 ≠ i2
  f1z : ∀ b ∈ f1, b ≠ z
  f1TO : ∀ b ∈ f1, b ≠ TO
  f1i2 : ∀ b ∈ f1, b ≠ i2
  f2z : ∀ b ∈ f2, b ≠ z
  f2TO : ∀ b ∈ f2, b ≠ TO
  f2i1 : ∀ b ∈ f2, b ≠ i1
section
variable {prog : Program} {w : World} {A : Around} {E : Value → Shared → Prop} {s : Shared}
theorem iter_str {x : Str} {t : Tok} {Q : Value → Shared → Prop} (hQ : Q (.ref s.heap.objs.size) { s with heap := s.heap.push (itObj x t) }) : wpAny (model prog w) A (pyIter (.str x t)) Q E s := by
  unfold itObj itCls at hQ
  cases ha : x.cps.all (· < 128)
  · rw [ha] at hQ; exact wpAny_pyIter_wide ha hQ
  · rw [ha] at hQ; exact wpAny_pyIter_ascii ha hQ
theorem next_item {z TI TO i1 i2 : Addr} {f1 f2 : List Addr} {k n1 n2 : Nat} {P1 P2 : Nat → Value → Prop} {St1 St2 : Nat → Heap → Prop} {a b : Value} {Q : Value → Shared → Prop} (Z : ZA z TI TO i1 i2 f1 f2)
    (D1 : Draws prog w A i1 f1 n1 P1 St1) (D2 : Draws prog w A i2 f2 n2 P2 St2)
    (hz : IsZip s.heap z TI TO .none) (hTI : IsPair s.heap TI (.ref i1) (.ref i2)) (hTO : IsPair s.heap TO a b) (h1 : St1 k s.heap) (h2 : St2 k s.heap) (hk1 : k < n1) (hk2 : k < n2)
    (hi1 : ∃ o, s.heap.get? i1 = some o) (hi2 : ∃ o, s.heap.get? i2 = some o)
    (hQ : ∀ x y h' tk, P1 k x → P2 k y → IsZip h' z TI TO (rawInt s.heap.objs.size) → IsPair h' TO x y → St1 (k + 1) h' → St2 (k + 1) h' → IsPair h' s.heap.objs.size x y → h'.objs.size = s.heap.objs.size + 1 →
      (∀ c o, c ≠ z → c ≠ TO → c ≠ i1 → c ≠ i2 → s.heap.get? c = some o → h'.get? c = some o) → Q (.ref s.heap.objs.size) { s with heap := h', toks := tk }) :
    wpAny (model prog w) A (Builtin.«zip.__next__» ⟨[.ref z], []⟩) (fun fin s' => ∃ v, fin = .done (.ret v) ∧ Q v s') E s := by
  obtain ⟨hp, g, d, tk₀, os⟩ := s
  show wpAny _ _ (field (.ref z) 2 >>= _) _ _ _
  refine wpAny_bind (wpAny_field hz rfl (x := .bool false) rfl ?_)
  show wpAny _ _ (field (.ref z) 3 >>= _) _ _ _
  refine wpAny_bind (wpAny_field hz rfl (x := .ref TI) rfl ?_)
  refine wpAny_bind (wpAny_seqItems hTI rfl ?_)
  show wpAny _ _ (Builtin.SmallTypes.ownedTupleIsFree (.ref z) >>= _) _ _ _
  refine wpAny_bind ?_
  unfold Builtin.SmallTypes.ownedTupleIsFree
  refine wpAny_bind (wpAny_field hz rfl (x := .none) rfl (wpAny_pure ?_))
  simp only [if_true]
  refine wpAny_bind (wpAny_rule ?_)
  refine wpAny_bind (wpAny_field hz rfl (x := .ref TO) rfl ?_)
  refine wpAny_bind (wpAny_setField_rec hz (by simp) fun h₁ hz₁ hs₁ => ?_)
  replace hz₁ : IsZip h₁ z TI TO .ellipsis := hz₁
  replace hs₁ : Heap.SameBut z hp h₁ := hs₁
  refine wpAny_bind ?_
  simp only [List.zipIdx_cons, List.zipIdx_nil, List.forIn_cons, List.forIn_nil]
  refine wpAny_bind (wpAny_bind (wpAny_onRaise ?_))
  show wpAny _ _ (Builtin.SmallTypes.nextOf (.ref i1) >>= _) _ _ _
  have h1₁ : St1 k h₁ := D1.frame _ _ _ h1 fun b hb o e => hs₁.extBut _ _ (Z.f1z b hb) e
  refine wpAny_bind (D1.item k _ _ _ hk1 h1₁ fun x h₂ tk₂ hPx h1₂ hs₂ => wpAny_pure ?_)
  replace hs₂ : Heap.SameBut i1 h₁ h₂ := hs₂
  have hTO₂ : IsPair h₂ TO a b := hs₂.extBut _ _ Z.TOi1 (hs₁.extBut _ _ Z.TOz hTO)
  refine wpAny_bind (wpAny_seqItems hTO₂ rfl ?_)
  refine wpAny_bind (wpAny_updateSeq_pair hTO₂ fun h₃ hTO₃ hs₃ => ?_)
  replace hTO₃ : IsPair h₃ TO x b := hTO₃
  replace hs₃ : Heap.SameBut TO h₂ h₃ := hs₃
  refine wpAny_bind (wpAny_letGo (wpAny_pure ?_))
  refine wpAny_bind (wpAny_bind (wpAny_onRaise ?_))
  show wpAny _ _ (Builtin.SmallTypes.nextOf (.ref i2) >>= _) _ _ _
  have h2₃ : St2 k h₃ := D2.frame _ _ _ h2 fun b hb o e => hs₃.extBut _ _ (Z.f2TO b hb) (hs₂.extBut _ _ (Z.f2i1 b hb) (hs₁.extBut _ _ (Z.f2z b hb) e))
  refine wpAny_bind (D2.item k _ _ _ hk2 h2₃ fun y h₄ tk₄ hPy h2₄ hs₄ => wpAny_pure ?_)
  replace hs₄ : Heap.SameBut i2 h₃ h₄ := hs₄
  have hTO₄ : IsPair h₄ TO x b := hs₄.extBut _ _ Z.TOi2 hTO₃
  refine wpAny_bind (wpAny_seqItems hTO₄ rfl ?_)
  refine wpAny_bind (wpAny_updateSeq_pair hTO₄ fun h₅ hTO₅ hs₅ => ?_)
  replace hTO₅ : IsPair h₅ TO x y := hTO₅
  replace hs₅ : Heap.SameBut TO h₄ h₅ := hs₅
  refine wpAny_bind (wpAny_letGo (wpAny_pure (wpAny_pure ?_)))
  refine wpAny_bind (wpAny_seqItems hTO₅ rfl ?_)
  refine wpAny_bind (wpAny_newTuple ?_)
  have hsz : h₅.objs.size = hp.objs.size := by rw [hs₅.1, hs₄.1, hs₃.1, hs₂.1, hs₁.1]
  have hz₅ : IsZip h₅ z TI TO .ellipsis := hs₅.extBut _ _ Z.TOz.symm (hs₄.extBut _ _ Z.i2z.symm (hs₃.extBut _ _ Z.TOz.symm (hs₂.extBut _ _ Z.i1z.symm hz₁)))
  have hk₅ : ∀ c o, c ≠ z → c ≠ TO → c ≠ i1 → c ≠ i2 → hp.get? c = some o → h₅.get? c = some o := fun c o c1 c2 c3 c4 e =>
    hs₅.extBut _ _ c2 (hs₄.extBut _ _ c4 (hs₃.extBut _ _ c2 (hs₂.extBut _ _ c3 (hs₁.extBut _ _ c1 e))))
  have hzlt : z < h₅.objs.size := Heap.lt_size hz₅
  show wpAny _ _ (Builtin.SmallTypes.ownedTupleHandOut (.ref z) (.ref h₅.objs.size) >>= _) _ _ _
  refine wpAny_bind ?_
  unfold Builtin.SmallTypes.ownedTupleHandOut
  have hz₆ : IsZip (h₅.push { cls := .type "tuple", data := .seq #[x, y] }) z TI TO .ellipsis := Heap.get?_push_of_some _ hz₅
  refine wpAny_bind (wpAny_setField_rec hz₆ (by simp) fun h₇ hz₇ hs₇ => ?_)
  replace hz₇ : IsZip h₇ z TI TO (rawInt h₅.objs.size) := hz₇
  refine wpAny_setField_rec hz₇ (by simp) fun h₈ hz₈ hs₈ => ?_
  replace hz₈ : IsZip h₈ z TI TO (rawInt h₅.objs.size) := hz₈
  replace hs₇ : Heap.SameBut z (h₅.push { cls := .type "tuple", data := .seq #[x, y] }) h₇ := hs₇
  replace hs₈ : Heap.SameBut z h₇ h₈ := hs₈
  have up : ∀ c o, c ≠ z → h₅.get? c = some o → h₈.get? c = some o := fun c o c1 e => hs₈.extBut _ _ c1 (hs₇.extBut _ _ c1 (Heap.get?_push_of_some _ e))
  have hT₈ : IsPair h₈ h₅.objs.size x y := hs₈.extBut _ _ (Nat.ne_of_gt hzlt) (hs₇.extBut _ _ (Nat.ne_of_gt hzlt) (Heap.get?_push_size _ rfl))
  have hz8 : h₈.objs.size = h₅.objs.size + 1 := by rw [hs₈.1, hs₇.1, Heap.size_push]
  rw [hsz] at hz₈ hT₈ hz8
  refine wpAny_pure ⟨_, rfl, ?_⟩
  show Q (.ref h₅.objs.size) _
  rw [hsz]
  refine hQ x y h₈ tk₄ hPx hPy hz₈ (up _ _ Z.TOz hTO₅) ?_ ?_ hT₈ hz8 fun c o c1 c2 c3 c4 e => up c o c1 (hk₅ c o c1 c2 c3 c4 e)
  · refine D1.frame _ _ _ h1₂ fun b hb o e => up _ _ (Z.f1z b hb) (hs₅.extBut _ _ (Z.f1TO b hb) (hs₄.extBut _ _ (Z.f1i2 b hb) (hs₃.extBut _ _ (Z.f1TO b hb) e)))
  · refine D2.frame _ _ _ h2₄ fun b hb o e => up _ _ (Z.f2z b hb) (hs₅.extBut _ _ (Z.f2TO b hb) e)
theorem next_end {z TI TO i1 i2 : Addr} {f1 f2 : List Addr} {k n1 n2 : Nat} {P1 P2 : Nat → Value → Prop} {St1 St2 : Nat → Heap → Prop} {a b : Value} {Q : Fin → Shared → Prop} (Z : ZA z TI TO i1 i2 f1 f2)
    (D1 : Draws prog w A i1 f1 n1 P1 St1) (D2 : Draws prog w A i2 f2 n2 P2 St2)
    (hz : IsZip s.heap z TI TO .none) (hTI : IsPair s.heap TI (.ref i1) (.ref i2)) (hTO : IsPair s.heap TO a b) (h1 : St1 k s.heap) (h2 : St2 k s.heap) (hk1 : k ≤ n1) (hk2 : k ≤ n2) (hend : k = n1 ∨ k = n2)
    (hE : ∀ h' e tk, (∀ c o, c ≠ z → c ≠ TO → c ≠ i1 → c ≠ i2 → s.heap.get? c = some o → h'.get? c = some o) → (∃ o, h'.get? e = some o ∧ o.cls = .type "StopIteration") → E (.ref e) { s with heap := h', toks := tk }) :
    wpAny (model prog w) A (Builtin.«zip.__next__» ⟨[.ref z], []⟩) Q E s := by
  obtain ⟨hp, g, d, tk₀, os⟩ := s
  show wpAny _ _ (field (.ref z) 2 >>= _) _ _ _
  refine wpAny_bind (wpAny_field hz rfl (x := .bool false) rfl ?_)
  show wpAny _ _ (field (.ref z) 3 >>= _) _ _ _
  refine wpAny_bind (wpAny_field hz rfl (x := .ref TI) rfl ?_)
  refine wpAny_bind (wpAny_seqItems hTI rfl ?_)
  show wpAny _ _ (Builtin.SmallTypes.ownedTupleIsFree (.ref z) >>= _) _ _ _
  refine wpAny_bind ?_
  unfold Builtin.SmallTypes.ownedTupleIsFree
  refine wpAny_bind (wpAny_field hz rfl (x := .none) rfl (wpAny_pure ?_))
  simp only [if_true]
  refine wpAny_bind (wpAny_rule ?_)
  refine wpAny_bind (wpAny_field hz rfl (x := .ref TO) rfl ?_)
  refine wpAny_bind (wpAny_setField_rec hz (by simp) fun h₁ hz₁ hs₁ => ?_)
  replace hz₁ : IsZip h₁ z TI TO .ellipsis := hz₁
  replace hs₁ : Heap.SameBut z hp h₁ := hs₁
  refine wpAny_bind ?_
  simp only [List.zipIdx_cons, List.zipIdx_nil, List.forIn_cons, List.forIn_nil]
  refine wpAny_bind (wpAny_bind (wpAny_onRaise ?_))
  show wpAny _ _ (Builtin.SmallTypes.nextOf (.ref i1) >>= _) _ _ _
  have h1₁ : St1 k h₁ := D1.frame _ _ _ h1 fun b hb o e => hs₁.extBut _ _ (Z.f1z b hb) e
  by_cases he1 : k = n1
  · subst he1
    refine wpAny_bind (D1.done _ _ _ h1₁ fun h₂ e hs₂ he => ?_)
    replace hs₂ : Heap.ExtBut i1 h₁ h₂ := hs₂
    obtain ⟨oe, hoe, hce⟩ := he
    have hz₂ : IsZip h₂ z TI TO .ellipsis := hs₂ _ _ Z.i1z.symm hz₁
    have hez : e ≠ z := fun x => by subst x; rw [hz₂] at hoe; cases hoe; simp at hce
    refine wpAny_setField_rec hz₂ (by simp) fun h₃ _ hs₃ => hE h₃ e _ (fun c o c1 _ c3 _ x => hs₃.extBut _ _ c1 (hs₂ _ _ c3 (hs₁.extBut _ _ c1 x))) ⟨oe, hs₃.extBut _ _ hez hoe, hce⟩
  · have he2 : k = n2 := hend.resolve_left he1
    subst he2
    refine wpAny_bind (D1.item k _ _ _ (by omega) h1₁ fun x h₂ tk₂ hPx h1₂ hs₂ => wpAny_pure ?_)
    replace hs₂ : Heap.SameBut i1 h₁ h₂ := hs₂
    have hTO₂ : IsPair h₂ TO a b := hs₂.extBut _ _ Z.TOi1 (hs₁.extBut _ _ Z.TOz hTO)
    refine wpAny_bind (wpAny_seqItems hTO₂ rfl ?_)
    refine wpAny_bind (wpAny_updateSeq_pair hTO₂ fun h₃ hTO₃ hs₃ => ?_)
    replace hs₃ : Heap.SameBut TO h₂ h₃ := hs₃
    refine wpAny_bind (wpAny_letGo (wpAny_pure ?_))
    refine wpAny_bind (wpAny_bind (wpAny_onRaise ?_))
    show wpAny _ _ (Builtin.SmallTypes.nextOf (.ref i2) >>= _) _ _ _
    have h2₃ : St2 k h₃ := D2.frame _ _ _ h2 fun b hb o e => hs₃.extBut _ _ (Z.f2TO b hb) (hs₂.extBut _ _ (Z.f2i1 b hb) (hs₁.extBut _ _ (Z.f2z b hb) e))
    refine wpAny_bind (D2.done _ _ _ h2₃ fun h₄ e hs₄ he => ?_)
    replace hs₄ : Heap.ExtBut i2 h₃ h₄ := hs₄
    obtain ⟨oe, hoe, hce⟩ := he
    have hz₄ : IsZip h₄ z TI TO .ellipsis := hs₄ _ _ Z.i2z.symm (hs₃.extBut _ _ Z.TOz.symm (hs₂.extBut _ _ Z.i1z.symm hz₁))
    have hez : e ≠ z := fun x => by subst x; rw [hz₄] at hoe; cases hoe; simp at hce
    refine wpAny_setField_rec hz₄ (by simp) fun h₅ _ hs₅ => hE h₅ e _ (fun c o c1 c2 c3 c4 x => hs₅.extBut _ _ c1 (hs₄ _ _ c4 (hs₃.extBut _ _ c2 (hs₂.extBut _ _ c3 (hs₁.extBut _ _ c1 x))))) ⟨oe, hs₅.extBut _ _ hez hoe, hce⟩
theorem pyNext_item {z TI TO i1 i2 : Addr} {f1 f2 : List Addr} {k n1 n2 : Nat} {P1 P2 : Nat → Value → Prop} {St1 St2 : Nat → Heap → Prop} {a b : Value} {Q : Option Value → Shared → Prop} (Z : ZA z TI TO i1 i2 f1 f2)
    (D1 : Draws prog w A.in1 i1 f1 n1 P1 St1) (D2 : Draws prog w A.in1 i2 f2 n2 P2 St2)
    (hz : IsZip s.heap z TI TO .none) (hTI : IsPair s.heap TI (.ref i1) (.ref i2)) (hTO : IsPair s.heap TO a b) (h1 : St1 k s.heap) (h2 : St2 k s.heap) (hk1 : k < n1) (hk2 : k < n2)
    (hQ : ∀ x y h' tk, P1 k x → P2 k y → IsZip h' z TI TO (rawInt s.heap.objs.size) → IsPair h' TO x y → St1 (k + 1) h' → St2 (k + 1) h' → IsPair h' s.heap.objs.size x y → h'.objs.size = s.heap.objs.size + 1 →
      (∀ c o, c ≠ z → c ≠ TO → c ≠ i1 → c ≠ i2 → s.heap.get? c = some o → h'.get? c = some o) → Q (some (.ref s.heap.objs.size)) { s with heap := h', toks := tk }) :
    wpAny (model prog w) A (pyNext (.ref z)) Q E s := by
  have hT : s.TypeIs (.ref z) "zip" := ⟨_, hz, rfl⟩
  unfold pyNext
  exact wpAny_bind (wpAny_attempt (wpAny_callSpecial?_slot (name := Str.ofString "__next__") hT F.slot_zip_next
    (wpAny_call_entry F.slot_zip_next hT F.entry_zip_next
      (next_item Z D1 D2 hz hTI hTO h1 h2 hk1 hk2 (D1.live _ _ h1) (D2.live _ _ h2) fun x y h' tk a1 a2 a3 a4 a5 a6 a7 a8 a9 => wpAny_pure (hQ x y h' tk a1 a2 a3 a4 a5 a6 a7 a8 a9)) (F.args_zip_next_1 _))))
theorem pyNext_end {z TI TO i1 i2 : Addr} {f1 f2 : List Addr} {k n1 n2 : Nat} {P1 P2 : Nat → Value → Prop} {St1 St2 : Nat → Heap → Prop} {a b : Value} {Q : Option Value → Shared → Prop} (Z : ZA z TI TO i1 i2 f1 f2)
    (D1 : Draws prog w A.in1 i1 f1 n1 P1 St1) (D2 : Draws prog w A.in1 i2 f2 n2 P2 St2)
    (hz : IsZip s.heap z TI TO .none) (hTI : IsPair s.heap TI (.ref i1) (.ref i2)) (hTO : IsPair s.heap TO a b) (h1 : St1 k s.heap) (h2 : St2 k s.heap) (hk1 : k ≤ n1) (hk2 : k ≤ n2) (hend : k = n1 ∨ k = n2)
    (hQ : ∀ h' tk, (∀ c o, c ≠ z → c ≠ TO → c ≠ i1 → c ≠ i2 → s.heap.get? c = some o → h'.get? c = some o) → Q none { s with heap := h', toks := tk }) : wpAny (model prog w) A (pyNext (.ref z)) Q E s := by
  have hT : s.TypeIs (.ref z) "zip" := ⟨_, hz, rfl⟩
  unfold pyNext
  refine wpAny_bind (wpAny_attempt (wpAny_callSpecial?_slot (name := Str.ofString "__next__") hT F.slot_zip_next
    (wpAny_call_entry F.slot_zip_next hT F.entry_zip_next (next_end Z D1 D2 hz hTI hTO h1 h2 hk1 hk2 hend fun h' e tk hk he => ?_) (F.args_zip_next_1 _))))
  obtain ⟨o, ho, hc⟩ := he
  refine wpAny_bind (wpAny_isInstance (T := "StopIteration") (b := true) ⟨o, ho, hc⟩ isSubtype_stop ?_)
  exact wpAny_pure (hQ _ _ hk)
end
inductive Src (h : Heap) : Value → Obj → Prop where
  | str (x : Str) (t : Tok) : Src h (.str x t) (itObj x t)
  | lst {l : Addr} {items : Array Value} (hl : h.IsList l items) : Src h (.ref l) { cls := .type "list_iterator", data := .fields #[.ref l, .int 0 0] }
theorem Src.push {h : Heap} {x : Value} {ob o : Obj} (S : Src h x ob) : Src (h.push o) x ob := by
  cases S with
  | str x t => exact .str x t
  | lst hl =>
    obtain ⟨o', e, r⟩ := hl
    exact .lst ⟨o', Heap.get?_push_of_some _ e, r⟩
theorem Src.live {h : Heap} {x : Value} {ob : Obj} (S : Src h x ob) : ob.isFreed = false := by cases S <;> rfl
section
variable {prog : Program} {w : World} {A : Around} {E : Value → Shared → Prop} {s : Shared}
theorem iter_src {x : Value} {ob : Obj} {Q : Value → Shared → Prop} (S : Src s.heap x ob) (hQ : Q (.ref s.heap.objs.size) { s with heap := s.heap.push ob }) : wpAny (model prog w) A (pyIter x) Q E s := by
  cases S with
  | str x t => exact iter_str hQ
  | lst hl => exact wpAny_pyIter_list hl hQ
end
abbrev zH1 (h : Heap) (o1 : Obj) : Heap := h.push o1
abbrev zH2 (h : Heap) (o1 o2 : Obj) : Heap := (zH1 h o1).push o2
abbrev zH3 (h : Heap) (o1 o2 : Obj) : Heap := (zH2 h o1 o2).push { cls := .type "tuple", data := .seq #[.ref h.objs.size, .ref (zH1 h o1).objs.size] }
abbrev zH4 (h : Heap) (o1 o2 : Obj) : Heap := (zH3 h o1 o2).push { cls := .type "tuple", data := .seq #[.none, .none] }
abbrev zH5 (h : Heap) (o1 o2 : Obj) : Heap := (zH4 h o1 o2).push { cls := .type "zip", data := .fields #[.none, .bool false, .bool false, .ref (zH2 h o1 o2).objs.size, .ref (zH3 h o1 o2).objs.size] }
set_option maxHeartbeats 4000000 in
theorem meets_new (x y : Value) (o1 o2 : Obj) :
    Meets (Builtin.«zip.__new__» ⟨[.type "zip", x, y], []⟩) (fun _ R s => Src s.heap x o1 ∧ Src s.heap y o2 ∧ R (.ok (.ret (.ref (zH4 s.heap o1 o2).objs.size))) { s with heap := zH5 s.heap o1 o2 }) :=
  .of_wp fun prog w A R s h => by
    obtain ⟨hp, g, d, tk, os⟩ := s
    have hsub := sub_zip
    obtain ⟨S1, S2, h⟩ := h
    have S2' : Src (zH1 hp o1) y o2 := S2.push
    have i1 : ∀ {Q : Value → Shared → Prop} {E : Value → Shared → Prop} {A : Around}, Q (.ref hp.objs.size) ⟨hp.push o1, g, d, tk, os⟩ → wpAny (model prog w) A (pyIter x) Q E ⟨hp, g, d, tk, os⟩ := fun {Q E A} q => iter_src (s := ⟨hp, g, d, tk, os⟩) S1 q
    have i2 : ∀ {Q : Value → Shared → Prop} {E : Value → Shared → Prop} {A : Around}, Q (.ref (zH1 hp o1).objs.size) ⟨zH2 hp o1 o2, g, d, tk, os⟩ → wpAny (model prog w) A (pyIter y) Q E ⟨zH1 hp o1, g, d, tk, os⟩ := fun {Q E A} q => iter_src (s := ⟨zH1 hp o1, g, d, tk, os⟩) S2' q
    wp_walk using i1, i2
    exact ⟨_, rfl, h⟩
section
variable {prog : Program} {w : World} {A : Around} {E : Value → Shared → Prop} {s : Shared}
theorem call_zip {x y : Value} {o1 o2 : Obj} {Q : Value → Shared → Prop} (S1 : Src s.heap x o1) (S2 : Src s.heap y o2)
    (h : ∀ h', IsZip h' (s.heap.objs.size + 4) (s.heap.objs.size + 2) (s.heap.objs.size + 3) .none → IsPair h' (s.heap.objs.size + 2) (.ref s.heap.objs.size) (.ref (s.heap.objs.size + 1)) →
      IsPair h' (s.heap.objs.size + 3) .none .none → h'.get? s.heap.objs.size = some o1 → h'.get? (s.heap.objs.size + 1) = some o2 → h'.objs.size = s.heap.objs.size + 5 →
      (∀ c o, s.heap.get? c = some o → h'.get? c = some o) → Q (.ref (s.heap.objs.size + 4)) { s with heap := h' }) :
    wpAny (model prog w) A (call (.type "zip") [x, y]) Q E s := by
  refine callType_new F.called_zip (by decide) (F.typeCall_zip_2 _ _) (F.newCall_zip_2 _ _) (fun obj => F.args_object_init_3 obj _ _) F.entry_zip_new (meets_new x y o1 o2) ?_
  have z1 : (zH1 s.heap o1).objs.size = s.heap.objs.size + 1 := Heap.size_push ..
  have z2 : (zH2 s.heap o1 o2).objs.size = s.heap.objs.size + 2 := by rw [Heap.size_push, z1]
  have z3 : (zH3 s.heap o1 o2).objs.size = s.heap.objs.size + 3 := by rw [Heap.size_push, z2]
  have z4 : (zH4 s.heap o1 o2).objs.size = s.heap.objs.size + 4 := by rw [Heap.size_push, z3]
  have z5 : (zH5 s.heap o1 o2).objs.size = s.heap.objs.size + 5 := by rw [Heap.size_push, z4]
  have g5 : (zH5 s.heap o1 o2).get? (zH4 s.heap o1 o2).objs.size = some _ := Heap.get?_push_size _ rfl
  have g4 : (zH5 s.heap o1 o2).get? (zH3 s.heap o1 o2).objs.size = some _ := Heap.get?_push_of_some _ (Heap.get?_push_size _ rfl)
  have g3 : (zH5 s.heap o1 o2).get? (zH2 s.heap o1 o2).objs.size = some _ := Heap.get?_push_of_some _ (Heap.get?_push_of_some _ (Heap.get?_push_size _ rfl))
  have g2 : (zH5 s.heap o1 o2).get? (zH1 s.heap o1).objs.size = some _ := Heap.get?_push_of_some _ (Heap.get?_push_of_some _ (Heap.get?_push_of_some _ (Heap.get?_push_size _ S2.live)))
  have g1 : (zH5 s.heap o1 o2).get? s.heap.objs.size = some _ := Heap.get?_push_of_some _ (Heap.get?_push_of_some _ (Heap.get?_push_of_some _ (Heap.get?_push_of_some _ (Heap.get?_push_size _ S1.live))))
  refine ⟨S1, S2, ?_⟩
  show _ ∧ _
  rw [z2, z3, z4] at g5
  rw [z1, z2] at g3
  rw [z3] at g4
  rw [z1] at g2
  rw [z4]
  exact ⟨⟨_, g5, rfl⟩, h _ g5 g3 g4 g1 g2 z5 fun c o x =>
    Heap.get?_push_of_some _ (Heap.get?_push_of_some _ (Heap.get?_push_of_some _ (Heap.get?_push_of_some _ (Heap.get?_push_of_some _ x))))⟩
end
end ZS
set_option Elab.async false
set_option linter.all false
set_option maxRecDepth 100000
namespace L2
open PySem PySem.Spec PyProof.Rows
section
variable {X : Cx} {pins : List (Addr × Obj)} {σ : St} {H : Hp} {s : Shared}
theorem Inv.turnedT {t' : Nat} {ch : List Addr} {p : Addr} {xs : List V} {its : List Value} {h' : Heap} (I : Inv X pins σ H s) (k : ∀ b o, b ∉ ch → s.heap.get? b = some o → h'.get? b = some o) (hf : ∀ b ∈ ch, FpOk X pins H b)
    (hp : s.heap.objs.size ≤ p) (hx : Vals xs its) (hz : xs.length ≤ sizeLine) (ht : IsTup h' p its.toArray) : Inv X pins σ (upd H p (.tup xs)) { s with heap := h', toks := t' } := by
  have hn : H p = none := I.hok.fresh hp
  have nch : ∀ b u, H b = some u → b ∉ ch := fun b u e z => by rw [(hf b z).1] at e; cases e
  refine I.call (g' := s.gens) (d' := s.drawn) (ch := ch) ⟨fun b o e _ _ hb => k b o hb e, fun b o e _ _ hb => ⟨o.slots, k b o hb e⟩, fun b o e n hb => ?_, fun b o e hb => ⟨o, k b o hb e⟩, fun b ys q => by rw [upd_ne (ne_of_none q hn)]; exact q, fun b u ys q => by rw [upd_ne (ne_of_none q hn)]; exact q, fun b ps q => ⟨#[], by rw [upd_ne (ne_of_none q hn), q]; simp⟩⟩ (fun b u e => ?_) I.bare fun b hb => ⟨(hf b hb).2.2.2.1, (hf b hb).2.1, (hf b hb).2.2.2.2.1, (hf b hb).2.2.2.2.2⟩
  · rw [upd_ne (Nat.ne_of_lt (Nat.lt_of_lt_of_le (Heap.lt_size e) hp))]; exact n
  · by_cases hb : b = p
    · subst hb
      rw [upd_same] at e
      cases e
      exact ⟨hz, its, hx, ht⟩
    · rw [upd_ne hb] at e
      refine (I.hok b u e).stay (fun c v hc q => k c v ?_ q) (fun c q => ?_) fun c ys q => ?_
      · rcases hc with z | z
        · rw [z]; exact nch b u e
        · exact nch c _ z
      · rw [upd_ne (ne_of_none q hn)]; exact q
      · rw [upd_ne (ne_of_none q hn)]; exact q
theorem Inv.turnedL {t' : Nat} {ch : List Addr} {h' : Heap} (I : Inv X pins σ H s) (k : ∀ b o, b ∉ ch → s.heap.get? b = some o → h'.get? b = some o) (hf : ∀ b ∈ ch, FpOk X pins H b) : Inv X pins σ H { s with heap := h', toks := t' } := by
  have nch : ∀ b u, H b = some u → b ∉ ch := fun b u e z => by rw [(hf b z).1] at e; cases e
  refine I.call (g' := s.gens) (d' := s.drawn) (ch := ch) ⟨fun b o e _ _ hb => k b o hb e, fun b o e _ _ hb => ⟨o.slots, k b o hb e⟩, fun b o e n hb => n, fun b o e hb => ⟨o, k b o hb e⟩, fun b ys q => q, fun b u ys q => q, fun b ps q => ⟨#[], by rw [q]; simp⟩⟩ (fun b u e => ?_) I.bare fun b hb => ⟨(hf b hb).2.2.2.1, (hf b hb).2.1, (hf b hb).2.2.2.2.1, (hf b hb).2.2.2.2.2⟩
  refine (I.hok b u e).stay (fun c v hc q => k c v ?_ q) (fun c q => q) fun c ys q => q
  rcases hc with z | z
  · rw [z]; exact nch b u e
  · exact nch c _ z
end
inductive ZSrc where
  | str (z : Str) | lst (a : Addr)
def ZSrc.val : ZSrc → V
  | .str z => .str z
  | .lst a => .ref a
def zLen (K : PySem.W.Frag) (H : Hp) : ZSrc → Nat → Prop
  | .str z, n => n = z.cps.size
  | .lst a, n => ∃ xs, SqL K H a xs ∧ n = xs.length
def zAt (K : PySem.W.Frag) (H : Hp) : ZSrc → Nat → V → Prop
  | .str z, i, v => ∃ c, z.cps[i]? = some c ∧ v = .str ⟨#[c]⟩
  | .lst a, i, v => ∀ xs, SqL K H a xs → xs[i]? = some v
def zSt (t : Tok) (it : Addr) : ZSrc → Nat → Heap → Prop
  | .str z, i, h => h.IsStrIter it (ZS.itCls z) z t i
  | .lst a, i, h => h.IsListIter it a i
theorem zSt.obj {t : Tok} {it : Addr} {z : ZSrc} {i : Nat} {h : Heap} (q : zSt t it z i h) : ∃ o c vs, h.get? it = some o ∧ o.cls = .type c ∧ (c = "list_iterator" ∨ c = "str_ascii_iterator" ∨ c = "str_iterator") ∧ o.data = .fields vs := by
  cases z with
  | str z =>
    obtain ⟨o, e, c, d⟩ := q
    refine ⟨o, _, _, e, c, ?_, d⟩
    unfold ZS.itCls
    split
    · exact .inr (.inl rfl)
    · exact .inr (.inr rfl)
  | lst a => obtain ⟨o, e, c, d⟩ := q; exact ⟨o, _, _, e, c, .inl rfl, d⟩
theorem zSt.keep {t : Tok} {it : Addr} {z : ZSrc} {i : Nat} {h h' : Heap} (q : zSt t it z i h) (k : ∀ o, h.get? it = some o → h'.get? it = some o) : zSt t it z i h' := by
  cases z with
  | str z => obtain ⟨o, e, r⟩ := q; exact ⟨o, k o e, r⟩
  | lst a => obtain ⟨o, e, r⟩ := q; exact ⟨o, k o e, r⟩
theorem zDraws {X : Cx} {pins : List (Addr × Obj)} {σ : St} {H : Hp} {s : Shared} {A : Around} (I : Inv X pins σ H s) (hh : A.handled = none) {t : Tok} {it : Addr} {z : ZSrc} {i n : Nat} (hn : zLen X.K H z n) (q : zSt t it z i s.heap) :
    ∃ (f : List Addr) (P : Nat → Value → Prop) (St : Nat → Heap → Prop), Draws X.prog X.w A it f n P St ∧ St i s.heap ∧ (∀ j v, P j v → ∃ x, RelV x v ∧ zAt X.K H z j x) ∧ (∀ j h, St j h → zSt t it z j h) ∧
      ∀ b ∈ f, b = it ∨ ∃ o, s.heap.get? b = some o ∧ o.cls = .type "list" := by
  cases z with
  | str z =>
    cases (show n = z.cps.size from hn)
    exact ⟨[it], _, _, ZS.draws hh it z t, q, fun j v ⟨c, u, e, ev⟩ => ⟨.str ⟨#[c]⟩, ⟨u, ev⟩, c, e, rfl⟩, fun j h x => x, fun b hb => .inl (by simpa using hb)⟩
  | lst a =>
    obtain ⟨xs, hq, rfl⟩ := hn
    obtain ⟨its, r, pl, hz⟩ := I.list hq
    obtain ⟨ol, el, cl, _⟩ := id pl.isList
    obtain ⟨oi, ei, ci, _⟩ := id q
    have hne : a ≠ it := by
      intro z; subst z
      rw [el] at ei; cases ei
      rw [cl] at ci; exact absurd ci (by decide)
    have e : xs.length = its.toArray.size := by rw [List.size_toArray]; exact r.length
    refine ⟨[it, a], fun i v => its.toArray[i]? = some v, fun i h => h.IsListIter it a i ∧ h.IsList a its.toArray, by rw [e]; exact Draws.list hh it a hne its.toArray, ⟨q, pl.isList⟩, fun j v hv => ?_, fun j h x => x.1, fun b hb => ?_⟩
    · have hv' : its[j]? = some v := by simpa using hv
      have hj : j < xs.length := by rw [r.length]; exact (List.getElem?_eq_some_iff.mp hv').1
      obtain ⟨u, eu, ru⟩ := r.get (i := j) (x := xs[j]) (by simp [hj])
      rw [hv'] at eu; cases eu
      exact ⟨xs[j], ru, fun ys hy => by rw [I.list_inj hy hq]; simp [hj]⟩
    · rcases List.mem_cons.mp hb with z | z
      · exact .inl z
      · cases (List.mem_singleton.mp z)
        exact .inr ⟨ol, el, cl⟩
def Itz (K : PySem.W.Frag) (a b : ZSrc) : It :=
  ⟨fun i H => ∃ n m, zLen K H a n ∧ zLen K H b m ∧ i < n ∧ i < m, fun i H v H' => ∃ x y p, zAt K H a i x ∧ zAt K H b i y ∧ H p = none ∧ v = .ref p ∧ H' = upd H p (.tup [x, y]),
    fun i H => ∃ n m, zLen K H a n ∧ zLen K H b m ∧ i ≤ n ∧ i ≤ m ∧ (i = n ∨ i = m)⟩
structure ZP (z TI TO i1 i2 : Addr) : Prop where
  TIz : TI ≠ z
  TOz : TO ≠ z
  i1z : i1 ≠ z
  i2z : i2 ≠ z
  TITO : TI ≠ TO
  TIi1 : TI ≠ i1
  TIi2 : TI ≠ i2
  TOi1 : TO ≠ i1
  TOi2 : TO ≠ i2
  i12 : i1 ≠ i2
theorem ZP.za {z TI TO i1 i2 : Addr} {f1 f2 : List Addr} {h : Heap} (Z : ZP z TI TO i1 i2) {x y v : Value} (hz : IsZip h z TI TO v) (hT : IsPair h TO x y) {o1 o2 : Obj} {c1 c2 : String} (h1 : h.get? i1 = some o1) (k1 : o1.cls = .type c1) (n1 : c1 ≠ "list") (h2 : h.get? i2 = some o2) (k2 : o2.cls = .type c2) (n2 : c2 ≠ "list")
    (q1 : ∀ b ∈ f1, b = i1 ∨ ∃ o, h.get? b = some o ∧ o.cls = .type "list") (q2 : ∀ b ∈ f2, b = i2 ∨ ∃ o, h.get? b = some o ∧ o.cls = .type "list") : ZS.ZA z TI TO i1 i2 f1 f2 := by
  have nz : ∀ b o, h.get? b = some o → o.cls = .type "list" → b ≠ z := fun b o e c w => by subst w; rw [hz] at e; cases e; injection (show Value.type "zip" = .type "list" from c) with c; exact absurd c (by decide)
  have nT : ∀ b o, h.get? b = some o → o.cls = .type "list" → b ≠ TO := fun b o e c w => by subst w; rw [hT] at e; cases e; injection (show Value.type "tuple" = .type "list" from c) with c; exact absurd c (by decide)
  have n1' : ∀ b o, h.get? b = some o → o.cls = .type "list" → b ≠ i1 := fun b o e c w => by subst w; rw [h1] at e; cases e; rw [k1] at c; injection c with c; exact n1 c
  have n2' : ∀ b o, h.get? b = some o → o.cls = .type "list" → b ≠ i2 := fun b o e c w => by subst w; rw [h2] at e; cases e; rw [k2] at c; injection c with c; exact n2 c
  refine ⟨Z.TIz, Z.TOz, Z.i1z, Z.i2z, Z.TITO, Z.TIi1, Z.TIi2, Z.TOi1, Z.TOi2, Z.i12, fun b hb => ?_, fun b hb => ?_, fun b hb => ?_, fun b hb => ?_, fun b hb => ?_, fun b hb => ?_⟩
  · rcases q1 b hb with rfl | ⟨o, e, c⟩; exact Z.i1z; exact nz b o e c
  · rcases q1 b hb with rfl | ⟨o, e, c⟩; exact Z.TOi1.symm; exact nT b o e c
  · rcases q1 b hb with rfl | ⟨o, e, c⟩; exact Z.i12; exact n2' b o e c
  · rcases q2 b hb with rfl | ⟨o, e, c⟩; exact Z.i2z; exact nz b o e c
  · rcases q2 b hb with rfl | ⟨o, e, c⟩; exact Z.TOi2.symm; exact nT b o e c
  · rcases q2 b hb with rfl | ⟨o, e, c⟩; exact Z.i12.symm; exact n1' b o e c
theorem turn_zip {P : Program} {w : World} {K : PySem.W.Frag} {elts : List Expr} {k0 : Nat} {pos : Pos} {z TI TO i1 i2 : Addr} {t1 t2 : Tok} {a b : ZSrc} (Z : ZP z TI TO i1 i2) :
    Turn P w K (.Tuple elts k0 pos) (Itz K a b) [z, TI, TO, i1, i2] z (fun i h => IsZip h z TI TO .none ∧ IsPair h TI (.ref i1) (.ref i2) ∧ (∃ x y, IsPair h TO x y) ∧ zSt t1 i1 a i h ∧ zSt t2 i2 b i h) where
  mem := by simp
  obj := fun i h st c hc => by
    obtain ⟨s1, s2, ⟨x, y, s3⟩, s4, s5⟩ := st
    simp only [List.mem_cons, List.not_mem_nil, or_false] at hc
    rcases hc with rfl | rfl | rfl | rfl | rfl
    · exact ⟨_, s1, fun v e => nomatch e⟩
    · exact ⟨_, s2, fun v e => nomatch e⟩
    · exact ⟨_, s3, fun v e => nomatch e⟩
    · obtain ⟨o, c, vs, e, _, _, d⟩ := s4.obj; exact ⟨o, e, fun v q => by rw [d] at q; cases q⟩
    · obtain ⟨o, c, vs, e, _, _, d⟩ := s5.obj; exact ⟨o, e, fun v q => by rw [d] at q; cases q⟩
  keep := fun i h h' st k => by
    obtain ⟨s1, s2, ⟨x, y, s3⟩, s4, s5⟩ := st
    exact ⟨k z (by simp) _ s1, k TI (by simp) _ s2, ⟨x, y, k TO (by simp) _ s3⟩, s4.keep fun o e => k i1 (by simp) o e, s5.keep fun o e => k i2 (by simp) o e⟩
  item := by
    intro X hP hw hK hc i pins s σ H E I hf st hg
    subst hP hw hK
    obtain ⟨s1, s2, ⟨x0, y0, s3⟩, s4, s5⟩ := st
    obtain ⟨n, m, hn, hm, hin, him⟩ := hg
    have hh : X.A.in1.handled = none := I.ok.hd hc
    obtain ⟨f1, P1, St1, D1, st1, p1, b1, q1⟩ := zDraws I hh hn s4
    obtain ⟨f2, P2, St2, D2, st2, p2, b2, q2⟩ := zDraws I hh hm s5
    obtain ⟨o1, c1, vs1, e1, k1, kk1, _⟩ := s4.obj
    obtain ⟨o2, c2, vs2, e2, k2, kk2, _⟩ := s5.obj
    have ZAa := Z.za s1 s3 e1 k1 (by rcases kk1 with h | h | h <;> (rw [h]; decide)) e2 k2 (by rcases kk2 with h | h | h <;> (rw [h]; decide)) q1 q2
    refine ZS.pyNext_item ZAa D1 D2 s1 s2 s3 st1 st2 hin him fun u v h' tk pu pv hz' hTO' st1' st2' hp' hsz' hk' => ⟨_, rfl, ?_⟩
    refine PySem.wpAny_letOwnedTupleGo_zip hz' fun h'' hz'' hs'' => ?_
    obtain ⟨x, rx, ax⟩ := p1 i u pu
    obtain ⟨y, ry, ay⟩ := p2 i v pv
    have hpz : s.heap.objs.size ≠ z := Nat.ne_of_gt (Heap.lt_size s1)
    have keepAll : ∀ c o, c ∉ [z, TI, TO, i1, i2] → s.heap.get? c = some o → h''.get? c = some o := fun c o hc e => by
      simp only [List.mem_cons, List.not_mem_nil, or_false, not_or] at hc
      exact hs''.extBut _ _ hc.1 (hk' c o hc.1 hc.2.2.1 hc.2.2.2.1 hc.2.2.2.2 e)
    have hT'' : IsPair h'' s.heap.objs.size u v := hs''.extBut _ _ hpz hp'
    refine ⟨.ref s.heap.objs.size, upd H s.heap.objs.size (.tup [x, y]), I.turnedT (its := [u, v]) keepAll hf (Nat.le_refl _) (.cons rx (.cons ry .nil)) (by show 2 ≤ sizeLine; rw [sizeLine_eq]; decide) ⟨_, hT'', rfl, _, rfl⟩, rfl, ⟨x, y, _, ax, ay, I.hok.fresh (Nat.le_refl _), rfl, rfl⟩, ?_, fun c hc => ?_⟩
    · refine ⟨hz'', hs''.extBut _ _ Z.TIz (hk' TI _ Z.TIz Z.TITO Z.TIi1 Z.TIi2 s2), ⟨u, v, hs''.extBut _ _ Z.TOz hTO'⟩, (b1 _ _ st1').keep fun o e => hs''.extBut _ _ Z.i1z e, (b2 _ _ st2').keep fun o e => hs''.extBut _ _ Z.i2z e⟩
    · have : c ≠ s.heap.objs.size := by
        have hlt : c < s.heap.objs.size := by
          simp only [List.mem_cons, List.not_mem_nil, or_false] at hc
          rcases hc with rfl | rfl | rfl | rfl | rfl
          · exact Heap.lt_size s1
          · exact Heap.lt_size s2
          · exact Heap.lt_size s3
          · exact Heap.lt_size e1
          · exact Heap.lt_size e2
        exact Nat.ne_of_lt hlt
      rw [upd_ne this]; exact (hf c hc).1
  done := by
    intro X hP hw hK hc i pins s σ H E I hf st hg
    subst hP hw hK
    obtain ⟨s1, s2, ⟨x0, y0, s3⟩, s4, s5⟩ := st
    obtain ⟨n, m, hn, hm, hin, him, hend⟩ := hg
    have hh : X.A.in1.handled = none := I.ok.hd hc
    obtain ⟨f1, P1, St1, D1, st1, p1, b1, q1⟩ := zDraws I hh hn s4
    obtain ⟨f2, P2, St2, D2, st2, p2, b2, q2⟩ := zDraws I hh hm s5
    obtain ⟨o1, c1, vs1, e1, k1, kk1, _⟩ := s4.obj
    obtain ⟨o2, c2, vs2, e2, k2, kk2, _⟩ := s5.obj
    have ZAa := Z.za s1 s3 e1 k1 (by rcases kk1 with h | h | h <;> (rw [h]; decide)) e2 k2 (by rcases kk2 with h | h | h <;> (rw [h]; decide)) q1 q2
    refine ZS.pyNext_end ZAa D1 D2 s1 s2 s3 st1 st2 hin him hend fun h' tk hk' => ⟨rfl, I.turnedL (fun c o hc e => ?_) hf⟩
    simp only [List.mem_cons, List.not_mem_nil, or_false, not_or] at hc
    exact hk' c o hc.1 hc.2.2.1 hc.2.2.2.1 hc.2.2.2.2 e
  self := fun A i s Q E st h => by
    have hT : s.TypeIs (.ref z) "zip" := ⟨_, st.1, rfl⟩
    refine wpAny_pyIter_slot hT F.slot_zip_iter (wpAny_call_entry F.slot_zip_iter hT F.entry_zip_iter ?_ (F.args_zip_iter_1 _))
    show wpAny _ _ (ret (.ref z)) _ _ s
    exact wpAny_pure ⟨_, rfl, "zip", _, hT, F.slot_zip_next.lookup, h⟩
theorem zp_mk (n : Nat) : ZP (n + 4) (n + 2) (n + 3) n (n + 1) := ⟨fun h => by have h' : (n + 2 : Nat) = n + 4 := h; omega, fun h => by have h' : (n + 3 : Nat) = n + 4 := h; omega, fun h => by have h' : (n : Nat) = n + 4 := h; omega, fun h => by have h' : (n + 1 : Nat) = n + 4 := h; omega, fun h => by have h' : (n + 2 : Nat) = n + 3 := h; omega, fun h => by have h' : (n + 2 : Nat) = n := h; omega, fun h => by have h' : (n + 2 : Nat) = n + 1 := h; omega, fun h => by have h' : (n + 3 : Nat) = n := h; omega, fun h => by have h' : (n + 3 : Nat) = n + 1 := h; omega, fun h => by have h' : (n : Nat) = n + 1 := h; omega⟩
def iZp (K : PySem.W.Frag) (ta : TA) : TI := fun σ H R => ta σ H fun vs H1 => ∃ a b : ZSrc, vs = [a.val, b.val] ∧ (∃ n, zLen K H1 a n) ∧ (∃ n, zLen K H1 b n) ∧ R (Itz K a b) H1
theorem zSrc_of {X : Cx} {pins : List (Addr × Obj)} {σ : St} {H : Hp} {s : Shared} (I : Inv X pins σ H s) {a : ZSrc} {n : Nat} (hn : zLen X.K H a n) {u : Value} (r : RelV a.val u) : ∃ ob t, ZS.Src s.heap u ob ∧ ∀ (h : Heap) (it : Addr), h.get? it = some ob → zSt t it a 0 h := by
  cases a with
  | str z => obtain ⟨t, rfl⟩ := r; exact ⟨_, t, .str z t, fun h it e => ⟨_, e, rfl, rfl⟩⟩
  | lst a =>
    cases (show u = .ref a from r)
    obtain ⟨xs, hq, _⟩ := hn
    obtain ⟨its, _, pl, _⟩ := I.list hq
    exact ⟨_, 0, .lst pl.isList, fun h it e => ⟨_, e, rfl, rfl⟩⟩
theorem pi_zip {X : Cx} {x y : Expr} {ta : TA} {p pos : Pos} {elts : List Expr} {k0 : Nat} {tp : Pos} (hg : Gl X "zip") (hm : X.mg "zip" = none) (ha : PA X [x, y] ta) (hs : starEach [x, y] X.env = [(false, eval x X.env), (false, eval y X.env)]) (hs2 : starEach [y] X.env = [(false, eval y X.env)]) :
    PI X (.Tuple elts k0 tp) (.Call (.Name "zip" p) [x, y] [] pos) (iZp X.K ta) := by
  intro pins s σ H R I h
  refine Call_ (ld_blt I hg hm (show bootBuiltins "zip" = some (.type "zip") by decide +kernel) (PyProof.Rows.callWith_type1 (thn (ha pos pins s σ H _ I h) fun us s1 ⟨vs, H1, I1, r1, q1⟩ => ?_) (by rw [hs, hs2]) (by rw [hs2]; rfl)))
  obtain ⟨a, b, rfl, ⟨n, hn⟩, ⟨m, hm⟩, q⟩ := q1
  obtain ⟨u, v, rfl, ru, rv⟩ := vals2 r1
  obtain ⟨o1, t1, S1, w1⟩ := zSrc_of I1 hn ru
  obtain ⟨o2, t2, S2, w2⟩ := zSrc_of I1 hm rv
  refine ZS.call_zip S1 S2 fun h' hz hTI hTO g1 g2 hsz hk => ?_
  have I2 : Inv X pins σ H1 { s1 with heap := h' } := I1.kept (t' := s1.toks) hk
  have Z : ZP (s1.heap.objs.size + 4) (s1.heap.objs.size + 2) (s1.heap.objs.size + 3) s1.heap.objs.size (s1.heap.objs.size + 1) := zp_mk _
  have st : IsZip h' (s1.heap.objs.size + 4) (s1.heap.objs.size + 2) (s1.heap.objs.size + 3) .none ∧ IsPair h' (s1.heap.objs.size + 2) (.ref s1.heap.objs.size) (.ref (s1.heap.objs.size + 1)) ∧ (∃ x y, IsPair h' (s1.heap.objs.size + 3) x y) ∧ zSt t1 s1.heap.objs.size a 0 h' ∧ zSt t2 (s1.heap.objs.size + 1) b 0 h' := ⟨hz, hTI, ⟨_, _, hTO⟩, w1 _ _ g1, w2 _ _ g2⟩
  refine (turn_zip (P := X.prog) (w := X.w) (K := X.K) (elts := elts) (k0 := k0) (pos := tp) Z).self _ 0 _ _ _ st ⟨_, _, _, Itz X.K a b, H1, rfl, I2, turn_zip Z, st, fun c hc => ?_, q⟩
  have hge : s1.heap.objs.size ≤ c := by
    simp only [List.mem_cons, List.not_mem_nil, or_false] at hc
    rcases hc with rfl | rfl | rfl | rfl | rfl
    · exact Nat.le_add_right _ _
    · exact Nat.le_add_right _ _
    · exact Nat.le_add_right _ _
    · exact Nat.le_refl _
    · exact Nat.le_add_right _ _
  exact I1.fpOk hge (I1.hok.fresh hge)
end L2
set_option Elab.async false
set_option linter.all false
set_option maxRecDepth 100000
namespace L2
open PySem PySem.Spec PyProof.Rows
inductive M where
  | non | bl (b : Bool) | int (i : Int) | str (x : Str) | ty (n : String)
  | tup (xs : List M) | lst (xs : List M) | dct (ks : List Key) (xs : List M) | ref (k : Nat) | scr (ns : List Int)
inductive MO where
  | lst (xs : List M) | dct (kvs : List (Key × M))
abbrev HpM := List MO
abbrev EnvM := List (Option M)
abbrev FE := EnvM → HpM → Option (M × HpM)
abbrev FA := EnvM → HpM → Option (List M × HpM)
abbrev FT := EnvM → HpM → Option (Bool × HpM)
abbrev FF := List M → HpM → Option (M × HpM)
inductive Out where
  | nx (ρ : EnvM) | bk (ρ : EnvM) | ct (ρ : EnvM) | rt (d : M)
abbrev FS := EnvM → HpM → Option (Out × HpM)
abbrev FG := M → EnvM → HpM → Option (EnvM × HpM)

structure Pl where
  a : List Addr
  g : List Addr
def Pl.no (α : Pl) (b : Addr) : Prop := b ∉ α.a ∧ b ∉ α.g
def Pl.add (α : Pl) (b : Addr) : Pl := ⟨α.a ++ [b], α.g⟩
def Pl.hide (α : Pl) (b : Addr) : Pl := ⟨α.a, b :: α.g⟩
def TupAt (K : PySem.W.Frag) (α : Pl) (H : Hp) (a : Addr) (vs : List V) : Prop :=
  (Rd H a (.tup vs) ∧ α.no a) ∨
    ∃ (o : Obj) (its : Array Value) (n : Nat), K.lookup a = some o ∧ o.cls = .type "tuple" ∧ o.data = .seq its n ∧ its.size ≤ sizeLine ∧ Vals vs its.toList
def ScrAt (K : PySem.W.Frag) (α : Pl) (H : Hp) (a : Addr) (vs : List V) : Prop :=
  (Rd H a (.lst vs) ∧ α.no a) ∨
    ∃ (o : Obj) (its : Array Value) (n : Nat), K.lookup a = some o ∧ o.cls = .type "list" ∧ o.dict = none ∧ o.data = .seq its n ∧ its.size ≤ sizeLine ∧ Vals vs its.toList
mutual
def RepA (K : PySem.W.Frag) (α : Pl) (H : Hp) : M → V → Prop
  | .non, v => v = .non
  | .bl b, v => v = .bl b
  | .int i, v => v = .int i
  | .str x, v => v = .str x
  | .ty n, v => v = .ty n
  | .tup xs, v => ∃ a vs, v = .ref a ∧ TupAt K α H a vs ∧ RepAs K α H xs vs
  | .scr ns, v => ∃ a, v = .ref a ∧ ScrAt K α H a (ns.map V.int)
  | .lst xs, v => ∃ a vs, v = .ref a ∧ α.no a ∧ H a = some (.lst vs) ∧ RepAs K α H xs vs
  | .dct ks xs, v => ∃ a ws, v = .ref a ∧ α.no a ∧ H a = some (.dK ws) ∧ ws.map (·.1) = ks ∧ RepAs K α H xs (ws.map (·.2))
  | .ref k, v => ∃ a, α.a[k]? = some a ∧ v = .ref a
def RepAs (K : PySem.W.Frag) (α : Pl) (H : Hp) : List M → List V → Prop
  | [], vs => vs = []
  | x :: xs, vs => ∃ v r, vs = v :: r ∧ RepA K α H x v ∧ RepAs K α H xs r
end
def RepO (K : PySem.W.Frag) (α : Pl) (H : Hp) : MO → Addr → Prop
  | .lst xs, a => ∃ vs, H a = some (.lst vs) ∧ RepAs K α H xs vs
  | .dct kvs, a => ∃ ws, H a = some (.dK ws) ∧ ws.map (·.1) = kvs.map (·.1) ∧ RepAs K α H (kvs.map (·.2)) (ws.map (·.2))
structure Rl (K : PySem.W.Frag) (α : Pl) (h : HpM) (H : Hp) : Prop where
  len : α.a.length = h.length
  nd : α.a.Nodup
  ap : ∀ b ∈ α.a, b ∉ α.g
  hid : ∀ b ∈ α.g, ∃ o, H b = some o
  obj : ∀ (k : Nat) (a : Addr) (o : MO), α.a[k]? = some a → h[k]? = some o → RepO K α H o a
structure Ev (α α' : Pl) (H H' : Hp) : Prop where
  pre : α'.g = α.g ∧ ∃ β, α'.a = α.a ++ β ∧ ∀ b ∈ β, H b = none
  keep : ∀ b o, H b = some o → b ∉ α.a → H' b = some o
  dom : ∀ b, H' b = none → H b = none
def REnv (K : PySem.W.Frag) (α : Pl) (H : Hp) (ρ : EnvM) (σ : St) : Prop :=
  ρ.length = σ.length ∧ ∀ (i : Nat) (m : M), ρ[i]? = some (some m) → ∃ v, σ[i]? = some (some v) ∧ RepA K α H m v

theorem Ev.refl {α : Pl} {H : Hp} : Ev α α H H := ⟨⟨rfl, [], by simp, by simp⟩, fun _ _ e _ => e, fun _ e => e⟩
theorem Ev.notA {α α' : Pl} {H H' : Hp} (e : Ev α α' H H') {b : Addr} {o : HO} (hb : H b = some o) (n : b ∉ α.a) : b ∉ α'.a := by
  obtain ⟨_, β, e1, f⟩ := e.pre
  intro h
  rw [e1] at h
  rcases List.mem_append.mp h with h | h
  · exact n h
  · rw [f b h] at hb; cases hb
theorem Ev.notMem {α α' : Pl} {H H' : Hp} (e : Ev α α' H H') {b : Addr} {o : HO} (hb : H b = some o) (n : α.no b) : α'.no b := ⟨e.notA hb n.1, by rw [e.pre.1]; exact n.2⟩
theorem Ev.trans {α α1 α2 : Pl} {H H1 H2 : Hp} (e : Ev α α1 H H1) (f : Ev α1 α2 H1 H2) : Ev α α2 H H2 := by
  refine ⟨?_, fun b o hb n => f.keep b o (e.keep b o hb n) (e.notA hb n), fun b hb => e.dom b (f.dom b hb)⟩
  obtain ⟨g1, β, e1, f1⟩ := e.pre
  obtain ⟨g2, γ, e2, f2⟩ := f.pre
  refine ⟨g2.trans g1, β ++ γ, by rw [e2, e1, List.append_assoc], fun b hb => ?_⟩
  rcases List.mem_append.mp hb with hb | hb
  · exact f1 b hb
  · exact e.dom b (f2 b hb)
theorem Ev.same {α : Pl} {H H' : Hp} (s : Same H H') : Ev α α H H' := ⟨⟨rfl, [], by simp, by simp⟩, fun b o e _ => s b o e, fun b e => by
  cases h : H b with
  | none => rfl
  | some o => rw [s b o h] at e; cases e⟩
theorem Ev.rd {α α' : Pl} {H H' : Hp} (e : Ev α α' H H') {a : Addr} {u : HO} (r : Rd H a u) (n : α.no a) : Rd H' a u ∧ α'.no a := by
  rcases r with r | ⟨o, r⟩
  · exact ⟨.inl (e.keep _ _ r n.1), e.notMem r n⟩
  · exact ⟨.inr ⟨o, e.keep _ _ r n.1⟩, e.notMem r n⟩
theorem Ev.ix {α α' : Pl} {H H' : Hp} (e : Ev α α' H H') {k : Nat} {a : Addr} (h : α.a[k]? = some a) : α'.a[k]? = some a := by
  obtain ⟨_, β, e1, _⟩ := e.pre
  have hk : k < α.a.length := (List.getElem?_eq_some_iff.mp h).1
  rw [e1, List.getElem?_append_left hk]; exact h
theorem TupAt.ev {K : PySem.W.Frag} {α α' : Pl} {H H' : Hp} (e : Ev α α' H H') {a : Addr} {vs : List V} (t : TupAt K α H a vs) : TupAt K α' H' a vs := by
  rcases t with ⟨r, n⟩ | t
  · exact .inl (e.rd r n)
  · exact .inr t
theorem TupAt.sq {K : PySem.W.Frag} {α : Pl} {H : Hp} {a : Addr} {vs : List V} (t : TupAt K α H a vs) : SqT K H a vs := by
  rcases t with ⟨r, _⟩ | t
  · exact .inl r
  · exact .inr t
theorem ScrAt.ev {K : PySem.W.Frag} {α α' : Pl} {H H' : Hp} (e : Ev α α' H H') {a : Addr} {vs : List V} (t : ScrAt K α H a vs) : ScrAt K α' H' a vs := by
  rcases t with ⟨r, n⟩ | t
  · exact .inl (e.rd r n)
  · exact .inr t
theorem ScrAt.sq {K : PySem.W.Frag} {α : Pl} {H : Hp} {a : Addr} {vs : List V} (t : ScrAt K α H a vs) : SqL K H a vs := by
  rcases t with ⟨r, _⟩ | t
  · exact .inl r
  · exact .inr t
mutual
theorem RepA.ev {K : PySem.W.Frag} {α α' : Pl} {H H' : Hp} (e : Ev α α' H H') : ∀ {m : M} {v : V}, RepA K α H m v → RepA K α' H' m v
  | .non, _, h => h
  | .bl _, _, h => h
  | .int _, _, h => h
  | .str _, _, h => h
  | .ty _, _, h => h
  | .tup xs, _, ⟨a, vs, e1, t, r⟩ => ⟨a, vs, e1, t.ev e, RepAs.ev e r⟩
  | .scr ns, _, ⟨a, e1, t⟩ => ⟨a, e1, t.ev e⟩
  | .lst xs, _, ⟨a, vs, e1, n, t, r⟩ => ⟨a, vs, e1, e.notMem t n, e.keep _ _ t n.1, RepAs.ev e r⟩
  | .dct ks xs, _, ⟨a, ws, e1, n, t, ek, r⟩ => ⟨a, ws, e1, e.notMem t n, e.keep _ _ t n.1, ek, RepAs.ev e r⟩
  | .ref k, _, ⟨a, h, e1⟩ => ⟨a, e.ix h, e1⟩
theorem RepAs.ev {K : PySem.W.Frag} {α α' : Pl} {H H' : Hp} (e : Ev α α' H H') : ∀ {xs : List M} {vs : List V}, RepAs K α H xs vs → RepAs K α' H' xs vs
  | [], _, h => h
  | x :: xs, _, ⟨v, r, e1, h1, h2⟩ => ⟨v, r, e1, RepA.ev e h1, RepAs.ev e h2⟩
end
theorem REnv.ev {K : PySem.W.Frag} {α α' : Pl} {H H' : Hp} (e : Ev α α' H H') {ρ : EnvM} {σ : St} (r : REnv K α H ρ σ) : REnv K α' H' ρ σ :=
  ⟨r.1, fun i m h => by obtain ⟨v, h1, h2⟩ := r.2 i m h; exact ⟨v, h1, h2.ev e⟩⟩
theorem RepAs.length {K : PySem.W.Frag} {α : Pl} {H : Hp} : ∀ {xs : List M} {vs : List V}, RepAs K α H xs vs → xs.length = vs.length
  | [], _, h => by cases (show _ = [] from h); rfl
  | x :: xs, _, ⟨v, r, e1, _, h2⟩ => by subst e1; simp [RepAs.length h2]
theorem RepAs.get {K : PySem.W.Frag} {α : Pl} {H : Hp} : ∀ {xs : List M} {vs : List V} {i : Nat} {m : M}, RepAs K α H xs vs → xs[i]? = some m → ∃ v, vs[i]? = some v ∧ RepA K α H m v
  | [], _, _, _, _, h => by simp at h
  | x :: xs, _, 0, m, ⟨v, r, e1, h1, h2⟩, h => by subst e1; simp at h; subst h; exact ⟨v, rfl, h1⟩
  | x :: xs, _, i + 1, m, ⟨v, r, e1, h1, h2⟩, h => by subst e1; simpa using RepAs.get (i := i) h2 (by simpa using h)
theorem RepAs.app {K : PySem.W.Frag} {α : Pl} {H : Hp} : ∀ {xs : List M} {vs : List V} {ys : List M} {ws : List V}, RepAs K α H xs vs → RepAs K α H ys ws → RepAs K α H (xs ++ ys) (vs ++ ws)
  | [], _, _, _, h, h' => by cases (show _ = [] from h); exact h'
  | x :: xs, _, _, _, ⟨v, r, e1, h1, h2⟩, h' => by subst e1; exact ⟨v, _, rfl, h1, RepAs.app h2 h'⟩
theorem RepAs.drop {K : PySem.W.Frag} {α : Pl} {H : Hp} : ∀ {xs : List M} {vs : List V} (n : Nat), RepAs K α H xs vs → RepAs K α H (xs.drop n) (vs.drop n)
  | _, _, 0, h => h
  | [], _, _ + 1, h => by cases (show _ = [] from h); exact rfl
  | x :: xs, _, n + 1, ⟨v, r, e1, h1, h2⟩ => by subst e1; exact RepAs.drop n h2
theorem RepAs.take {K : PySem.W.Frag} {α : Pl} {H : Hp} : ∀ {xs : List M} {vs : List V} (n : Nat), RepAs K α H xs vs → RepAs K α H (xs.take n) (vs.take n)
  | _, _, 0, h => by simp only [List.take_zero]; exact rfl
  | [], _, _ + 1, h => by cases (show _ = [] from h); exact rfl
  | x :: xs, _, n + 1, ⟨v, r, e1, h1, h2⟩ => by subst e1; exact ⟨v, _, rfl, h1, RepAs.take n h2⟩
theorem RepAs.set {K : PySem.W.Frag} {α : Pl} {H : Hp} {m : M} {v : V} (hm : RepA K α H m v) : ∀ {xs : List M} {vs : List V} (n : Nat), RepAs K α H xs vs → RepAs K α H (xs.set n m) (vs.set n v)
  | [], _, n, h => by cases (show _ = [] from h); exact rfl
  | x :: xs, _, 0, ⟨v, r, e1, h1, h2⟩ => by subst e1; exact ⟨_, _, rfl, hm, h2⟩
  | x :: xs, _, n + 1, ⟨v, r, e1, h1, h2⟩ => by subst e1; exact ⟨v, _, rfl, h1, RepAs.set hm n h2⟩
theorem RepAs.snoc {K : PySem.W.Frag} {α : Pl} {H : Hp} {xs : List M} {vs : List V} {m : M} {v : V} (h : RepAs K α H xs vs) (hm : RepA K α H m v) : RepAs K α H (xs ++ [m]) (vs ++ [v]) := h.app ⟨v, [], rfl, hm, rfl⟩
theorem RepAs.at {K : PySem.W.Frag} {α : Pl} {H : Hp} {xs : List M} {vs : List V} {i : Int} {m : M} (h : RepAs K α H xs vs) (e : atI xs i = some m) : ∃ v, atI vs i = some v ∧ RepA K α H m v := by
  unfold atI at e ⊢
  rw [← h.length]
  cases q : ixN xs.length i with
  | none => rw [q] at e; cases e
  | some j =>
    rw [q] at e
    exact h.get e
theorem Rl.same {K : PySem.W.Frag} {α : Pl} {h : HpM} {H H' : Hp} (r : Rl K α h H) (s : Same H H') : Rl K α h H' :=
  ⟨r.len, r.nd, r.ap, fun b hb => by
    obtain ⟨o, e⟩ := r.hid b hb
    exact ⟨o, s b o e⟩, fun k a o hk ho => by
    have e : Ev α α H H' := Ev.same s
    have q := r.obj k a o hk ho
    cases o with
    | lst xs => obtain ⟨vs, h1, h2⟩ := q; exact ⟨vs, s _ _ h1, h2.ev e⟩
    | dct kvs => obtain ⟨ws, h1, h2, h3⟩ := q; exact ⟨ws, s _ _ h1, h2, h3.ev e⟩⟩
theorem Rl.some_at {K : PySem.W.Frag} {α : Pl} {h : HpM} {H : Hp} (r : Rl K α h H) {a : Addr} (ha : a ∈ α.a) : ∃ o, H a = some o := by
  obtain ⟨k, hk⟩ := List.getElem?_of_mem ha
  have hl : k < h.length := by rw [← r.len]; exact (List.getElem?_eq_some_iff.mp hk).1
  have q := r.obj k a h[k] hk (by simp [hl])
  revert q
  cases h[k] with
  | lst xs => rintro ⟨vs, h1, _⟩; exact ⟨_, h1⟩
  | dct kvs => rintro ⟨vs, h1, _⟩; exact ⟨_, h1⟩
theorem Ev.write {K : PySem.W.Frag} {α : Pl} {h : HpM} {H : Hp} (r : Rl K α h H) {a : Addr} (ha : a ∈ α.a) {u : HO} : Ev α α H (upd H a u) :=
  ⟨⟨rfl, [], by simp, by simp⟩, fun b o e n => by
    have hba : b ≠ a := by intro z; subst z; exact n ha
    rw [upd_ne hba]; exact e, fun b e => by
    by_cases hb : b = a
    · subst hb; rw [upd_same] at e; cases e
    · rw [upd_ne hb] at e; exact e⟩
theorem Rl.write {K : PySem.W.Frag} {α : Pl} {h : HpM} {H : Hp} (r : Rl K α h H) {k : Nat} {a : Addr} (ha : α.a[k]? = some a) {u : HO} {o : MO} (ho : RepO K α (upd H a u) o a) : Rl K α (h.set k o) (upd H a u) := by
  have e : Ev α α H (upd H a u) := Ev.write r (List.mem_of_getElem? ha)
  refine ⟨by simp [r.len], r.nd, r.ap, fun b hb => by
    obtain ⟨o, e⟩ := r.hid b hb
    by_cases z : b = a
    · subst z; exact ⟨_, upd_same⟩
    · exact ⟨o, by rw [upd_ne z]; exact e⟩, fun j b o' hj ho' => ?_⟩
  by_cases hjk : j = k
  · subst hjk
    rw [ha] at hj; cases hj
    have hl : j < h.length := by rw [← r.len]; exact (List.getElem?_eq_some_iff.mp ha).1
    rw [List.getElem?_set_self hl] at ho'; cases ho'
    exact ho
  · rw [List.getElem?_set_ne (fun z => hjk z.symm)] at ho'
    have hba : b ≠ a := fun z => by
      subst z
      have hjl := (List.getElem?_eq_some_iff.mp hj)
      have hkl := (List.getElem?_eq_some_iff.mp ha)
      exact hjk ((List.getElem_inj r.nd).mp (hjl.2.trans hkl.2.symm))
    have q := r.obj j b o' hj ho'
    cases o' with
    | lst xs => obtain ⟨vs, h1, h2⟩ := q; exact ⟨vs, by rw [upd_ne hba]; exact h1, h2.ev e⟩
    | dct kvs => obtain ⟨ws, h1, h2, h3⟩ := q; exact ⟨ws, by rw [upd_ne hba]; exact h1, h2, h3.ev e⟩
theorem Ev.alloc {α : Pl} {H : Hp} {p : Addr} (hp : H p = none) {u : HO} : Ev α (α.add p) H (upd H p u) :=
  ⟨⟨rfl, [p], rfl, fun b hb => by rw [List.mem_singleton.mp hb]; exact hp⟩, fun b o e _ => upd_new e hp, fun b e => by
    by_cases hb : b = p
    · subst hb; exact hp
    · rw [upd_ne hb] at e; exact e⟩
theorem Rl.newA {K : PySem.W.Frag} {α : Pl} {h : HpM} {H : Hp} (r : Rl K α h H) {p : Addr} (hp : H p = none) : p ∉ α.a := fun hm => by
  obtain ⟨o, e⟩ := r.some_at hm
  rw [hp] at e; cases e
theorem Rl.new {K : PySem.W.Frag} {α : Pl} {h : HpM} {H : Hp} (r : Rl K α h H) {p : Addr} (hp : H p = none) : α.no p := ⟨r.newA hp, fun hm => by
  obtain ⟨o, e⟩ := r.hid p hm
  rw [hp] at e; cases e⟩
theorem Rl.alloc {K : PySem.W.Frag} {α : Pl} {h : HpM} {H : Hp} (r : Rl K α h H) {p : Addr} (hp : H p = none) {u : HO} {o : MO} (ho : RepO K (α.add p) (upd H p u) o p) : Rl K (α.add p) (h ++ [o]) (upd H p u) := by
  have e : Ev α (α.add p) H (upd H p u) := Ev.alloc hp
  refine ⟨by simp [r.len, Pl.add], ?_, fun b hb => ?_, fun b hb => ?_, fun j b o' hj ho' => ?_⟩
  · show (α.a ++ [p]).Nodup
    rw [List.nodup_append]
    refine ⟨r.nd, by simp, fun x hx y hy => ?_⟩
    rw [List.mem_singleton.mp hy]
    exact fun z => r.newA hp (z ▸ hx)
  · rcases List.mem_append.mp (show b ∈ α.a ++ [p] from hb) with hb | hb
    · exact r.ap b hb
    · rw [List.mem_singleton.mp hb]; exact (r.new hp).2
  · obtain ⟨o, e⟩ := r.hid b hb
    exact ⟨o, upd_new e hp⟩
  · have hj : (α.a ++ [p])[j]? = some b := hj
    by_cases hl : j < α.a.length
    · rw [List.getElem?_append_left hl] at hj
      rw [List.getElem?_append_left (by rw [← r.len]; exact hl)] at ho'
      have q := r.obj j b o' hj ho'
      cases o' with
      | lst xs => obtain ⟨vs, h1, h2⟩ := q; exact ⟨vs, upd_new h1 hp, h2.ev e⟩
      | dct kvs => obtain ⟨ws, h1, h2, h3⟩ := q; exact ⟨ws, upd_new h1 hp, h2, h3.ev e⟩
    · have hj' : j < α.a.length + 1 := by simpa using (List.getElem?_eq_some_iff.mp hj).1
      have ej : j = α.a.length := by omega
      subst ej
      rw [List.getElem?_append_right (Nat.le_refl _)] at hj
      simp at hj
      rw [r.len, List.getElem?_append_right (Nat.le_refl _)] at ho'
      simp at ho'
      subst hj ho'
      exact ho
mutual
theorem RepA.hide {K : PySem.W.Frag} {α : Pl} {H : Hp} {p : Addr} (hp : H p = none) : ∀ {m : M} {v : V}, RepA K α H m v → RepA K (α.hide p) H m v
  | .non, _, h => h
  | .bl _, _, h => h
  | .int _, _, h => h
  | .str _, _, h => h
  | .ty _, _, h => h
  | .tup xs, _, ⟨a, vs, e1, t, r⟩ => ⟨a, vs, e1, t.elim (fun ⟨q, n⟩ => .inl ⟨q, n.1, fun hm => by
      rcases List.mem_cons.mp hm with z | z
      · subst z; rcases q with q | ⟨_, q⟩ <;> (rw [hp] at q; cases q)
      · exact n.2 z⟩) .inr, RepAs.hide hp r⟩
  | .scr ns, _, ⟨a, e1, t⟩ => ⟨a, e1, t.elim (fun ⟨q, n⟩ => .inl ⟨q, n.1, fun hm => by
      rcases List.mem_cons.mp hm with z | z
      · subst z; rcases q with q | ⟨_, q⟩ <;> (rw [hp] at q; cases q)
      · exact n.2 z⟩) .inr⟩
  | .lst xs, _, ⟨a, vs, e1, n, t, r⟩ => ⟨a, vs, e1, ⟨n.1, fun hm => by
      rcases List.mem_cons.mp hm with z | z
      · subst z; rw [hp] at t; cases t
      · exact n.2 z⟩, t, RepAs.hide hp r⟩
  | .dct ks xs, _, ⟨a, ws, e1, n, t, ek, r⟩ => ⟨a, ws, e1, ⟨n.1, fun hm => by
      rcases List.mem_cons.mp hm with z | z
      · subst z; rw [hp] at t; cases t
      · exact n.2 z⟩, t, ek, RepAs.hide hp r⟩
  | .ref k, _, h => h
theorem RepAs.hide {K : PySem.W.Frag} {α : Pl} {H : Hp} {p : Addr} (hp : H p = none) : ∀ {xs : List M} {vs : List V}, RepAs K α H xs vs → RepAs K (α.hide p) H xs vs
  | [], _, h => h
  | x :: xs, _, ⟨v, r, e1, h1, h2⟩ => ⟨v, r, e1, RepA.hide hp h1, RepAs.hide hp h2⟩
end
mutual
theorem RepA.show {K : PySem.W.Frag} {α : Pl} {H : Hp} {p : Addr} : ∀ {m : M} {v : V}, RepA K (α.hide p) H m v → RepA K α H m v
  | .non, _, h => h
  | .bl _, _, h => h
  | .int _, _, h => h
  | .str _, _, h => h
  | .ty _, _, h => h
  | .tup xs, _, ⟨a, vs, e1, t, r⟩ => ⟨a, vs, e1, t.elim (fun ⟨q, n⟩ => .inl ⟨q, n.1, fun hm => n.2 (List.mem_cons_of_mem _ hm)⟩) .inr, RepAs.show r⟩
  | .scr ns, _, ⟨a, e1, t⟩ => ⟨a, e1, t.elim (fun ⟨q, n⟩ => .inl ⟨q, n.1, fun hm => n.2 (List.mem_cons_of_mem _ hm)⟩) .inr⟩
  | .lst xs, _, ⟨a, vs, e1, n, t, r⟩ => ⟨a, vs, e1, ⟨n.1, fun hm => n.2 (List.mem_cons_of_mem _ hm)⟩, t, RepAs.show r⟩
  | .dct ks xs, _, ⟨a, ws, e1, n, t, ek, r⟩ => ⟨a, ws, e1, ⟨n.1, fun hm => n.2 (List.mem_cons_of_mem _ hm)⟩, t, ek, RepAs.show r⟩
  | .ref k, _, h => h
theorem RepAs.show {K : PySem.W.Frag} {α : Pl} {H : Hp} {p : Addr} : ∀ {xs : List M} {vs : List V}, RepAs K (α.hide p) H xs vs → RepAs K α H xs vs
  | [], _, h => h
  | x :: xs, _, ⟨v, r, e1, h1, h2⟩ => ⟨v, r, e1, RepA.show h1, RepAs.show h2⟩
end
mutual
theorem RepA.hw {K : PySem.W.Frag} {α : Pl} {H : Hp} {p : Addr} {u : HO} (hp : p ∈ α.g) : ∀ {m : M} {v : V}, RepA K α H m v → RepA K α (upd H p u) m v
  | .non, _, h => h
  | .bl _, _, h => h
  | .int _, _, h => h
  | .str _, _, h => h
  | .ty _, _, h => h
  | .tup xs, _, ⟨a, vs, e1, t, r⟩ => ⟨a, vs, e1, t.elim (fun ⟨q, n⟩ => .inl ⟨by
      have hn : a ≠ p := by intro z; subst z; exact n.2 hp
      rcases q with q | ⟨o, q⟩
      · exact .inl (by rw [upd_ne hn]; exact q)
      · exact .inr ⟨o, by rw [upd_ne hn]; exact q⟩, n⟩) .inr, RepAs.hw hp r⟩
  | .scr ns, _, ⟨a, e1, t⟩ => ⟨a, e1, t.elim (fun ⟨q, n⟩ => .inl ⟨by
      have hn : a ≠ p := by intro z; subst z; exact n.2 hp
      rcases q with q | ⟨o, q⟩
      · exact .inl (by rw [upd_ne hn]; exact q)
      · exact .inr ⟨o, by rw [upd_ne hn]; exact q⟩, n⟩) .inr⟩
  | .lst xs, _, ⟨a, vs, e1, n, t, r⟩ => ⟨a, vs, e1, n, by
      have hn : a ≠ p := by intro z; subst z; exact n.2 hp
      rw [upd_ne hn]; exact t, RepAs.hw hp r⟩
  | .dct ks xs, _, ⟨a, ws, e1, n, t, ek, r⟩ => ⟨a, ws, e1, n, by
      have hn : a ≠ p := by intro z; subst z; exact n.2 hp
      rw [upd_ne hn]; exact t, ek, RepAs.hw hp r⟩
  | .ref k, _, h => h
theorem RepAs.hw {K : PySem.W.Frag} {α : Pl} {H : Hp} {p : Addr} {u : HO} (hp : p ∈ α.g) : ∀ {xs : List M} {vs : List V}, RepAs K α H xs vs → RepAs K α (upd H p u) xs vs
  | [], _, h => h
  | x :: xs, _, ⟨v, r, e1, h1, h2⟩ => ⟨v, r, e1, RepA.hw hp h1, RepAs.hw hp h2⟩
end
theorem Rl.hw {K : PySem.W.Frag} {α : Pl} {h : HpM} {H : Hp} {p : Addr} {u : HO} (r : Rl K α h H) (hp : p ∈ α.g) : Rl K α h (upd H p u) :=
  ⟨r.len, r.nd, r.ap, fun b hb => by
    by_cases z : b = p
    · subst z; exact ⟨_, upd_same⟩
    · obtain ⟨o, e⟩ := r.hid b hb
      exact ⟨o, by rw [upd_ne z]; exact e⟩, fun k a o hk ho => by
    have hn : a ≠ p := by intro z; subst z; exact r.ap _ (List.mem_of_getElem? hk) hp
    have q := r.obj k a o hk ho
    cases o with
    | lst xs => obtain ⟨vs, h1, h2⟩ := q; exact ⟨vs, by rw [upd_ne hn]; exact h1, h2.hw hp⟩
    | dct kvs => obtain ⟨ws, h1, h2, h3⟩ := q; exact ⟨ws, by rw [upd_ne hn]; exact h1, h2, h3.hw hp⟩⟩
theorem REnv.hw {K : PySem.W.Frag} {α : Pl} {H : Hp} {ρ : EnvM} {σ : St} {p : Addr} {u : HO} (r : REnv K α H ρ σ) (hp : p ∈ α.g) : REnv K α (upd H p u) ρ σ :=
  ⟨r.1, fun i m h => by obtain ⟨v, h1, h2⟩ := r.2 i m h; exact ⟨v, h1, h2.hw hp⟩⟩
theorem REnv.hide {K : PySem.W.Frag} {α : Pl} {H : Hp} {ρ : EnvM} {σ : St} {p : Addr} (r : REnv K α H ρ σ) (hp : H p = none) : REnv K (α.hide p) H ρ σ :=
  ⟨r.1, fun i m h => by obtain ⟨v, h1, h2⟩ := r.2 i m h; exact ⟨v, h1, h2.hide hp⟩⟩
theorem Rl.lay {K : PySem.W.Frag} {α : Pl} {h : HpM} {H : Hp} {p : Addr} {u : HO} (r : Rl K α h H) (hp : H p = none) : Rl K (α.hide p) h (upd H p u) :=
  have s : Same H (upd H p u) := same_new hp u
  ⟨r.len, r.nd, fun b hb hm => by
    rcases List.mem_cons.mp hm with z | z
    · subst z; exact r.newA hp hb
    · exact r.ap b hb z, fun b hb => by
    rcases List.mem_cons.mp hb with z | z
    · subst z; exact ⟨_, upd_same⟩
    · obtain ⟨o, e⟩ := r.hid b z
      exact ⟨o, s b o e⟩, fun k a o hk ho => by
    have q := r.obj k a o hk ho
    cases o with
    | lst xs => obtain ⟨vs, h1, h2⟩ := q; exact ⟨vs, s _ _ h1, (h2.hide hp).ev (.same s)⟩
    | dct kvs => obtain ⟨ws, h1, h2, h3⟩ := q; exact ⟨ws, s _ _ h1, h2, (h3.hide hp).ev (.same s)⟩⟩
theorem Rl.show {K : PySem.W.Frag} {α : Pl} {h : HpM} {H : Hp} {p : Addr} (r : Rl K (α.hide p) h H) : Rl K α h H :=
  ⟨r.len, r.nd, fun b hb hm => r.ap b hb (List.mem_cons_of_mem _ hm), fun b hb => r.hid b (List.mem_cons_of_mem _ hb), fun k a o hk ho => by
    have q := r.obj k a o hk ho
    cases o with
    | lst xs => obtain ⟨vs, h1, h2⟩ := q; exact ⟨vs, h1, h2.show⟩
    | dct kvs => obtain ⟨ws, h1, h2, h3⟩ := q; exact ⟨ws, h1, h2, h3.show⟩⟩

theorem Ev.unhide {α α' : Pl} {H H' : Hp} {p : Addr} (e : Ev (α.hide p) (α'.hide p) H H') : Ev α α' H H' :=
  ⟨⟨(List.cons.inj e.pre.1).2, e.pre.2⟩, e.keep, e.dom⟩
theorem Ev.hw {α α' : Pl} {H H' : Hp} {p : Addr} {u : HO} (e : Ev α α' H H') (hp : H p = none) : Ev α α' H (upd H' p u) :=
  ⟨e.pre, fun b o hb n => by
    have z : b ≠ p := by intro z; subst z; rw [hp] at hb; cases hb
    rw [upd_ne z]; exact e.keep b o hb n, fun b hb => by
    by_cases z : b = p
    · subst z; exact hp
    · rw [upd_ne z] at hb; exact e.dom b hb⟩

def tM (K : PySem.W.Frag) (m : FE) : TE := fun σ H Q => ∃ α ρ h d h', REnv K α H ρ σ ∧ Rl K α h H ∧ m ρ h = some (d, h') ∧ ∀ α' H' v, Ev α α' H H' → Rl K α' h' H' → RepA K α' H' d v → Q v H'
def aM (K : PySem.W.Frag) (m : FA) : TA := fun σ H Q => ∃ α ρ h d h', REnv K α H ρ σ ∧ Rl K α h H ∧ m ρ h = some (d, h') ∧ ∀ α' H' v, Ev α α' H H' → Rl K α' h' H' → RepAs K α' H' d v → Q v H'
def bM (K : PySem.W.Frag) (m : FT) : TT := fun σ H Q => ∃ α ρ h d h', REnv K α H ρ σ ∧ Rl K α h H ∧ m ρ h = some (d, h') ∧ ∀ α' H', Ev α α' H H' → Rl K α' h' H' → Q d H'
def Fin (K : PySem.W.Frag) (D : Ends) (α' : Pl) (H' : Hp) : Out → Prop
  | .nx ρ => ∀ σ, REnv K α' H' ρ σ → D.nx σ H'
  | .bk ρ => ∀ σ, REnv K α' H' ρ σ → D.bk σ H'
  | .ct ρ => ∀ σ, REnv K α' H' ρ σ → D.ct σ H'
  | .rt d => ∀ v, RepA K α' H' d v → D.rt v H'
def sM (K : PySem.W.Frag) (m : FS) : TS := fun D σ H => ∃ α ρ h o h', REnv K α H ρ σ ∧ Rl K α h H ∧ m ρ h = some (o, h') ∧ ∀ α' H', Ev α α' H H' → Rl K α' h' H' → Fin K D α' H' o
def gM (K : PySem.W.Frag) (m : FG) : TG := fun v σ H Q => ∃ α ρ h x ρ' h', REnv K α H ρ σ ∧ Rl K α h H ∧ RepA K α H x v ∧ m x ρ h = some (ρ', h') ∧ ∀ α' H' σ', Ev α α' H H' → Rl K α' h' H' → REnv K α' H' ρ' σ' → Q σ' H'
abbrev FGs := List M → EnvM → HpM → Option (EnvM × HpM)
def gsM (K : PySem.W.Frag) (m : FGs) : TGs := fun v σ H Q => ∃ α ρ h x ρ' h', REnv K α H ρ σ ∧ Rl K α h H ∧ RepAs K α H x v ∧ m x ρ h = some (ρ', h') ∧ ∀ α' H' σ', Ev α α' H H' → Rl K α' h' H' → REnv K α' H' ρ' σ' → Q σ' H'
def spM (K : PySem.W.Frag) (m : FF) : Sp := fun vs H Q _ => ∃ α h ds d h', RepAs K α H ds vs ∧ Rl K α h H ∧ m ds h = some (d, h') ∧ ∀ α' H' v, Ev α α' H H' → Rl K α' h' H' → RepA K α' H' d v → Q v H'
section
variable {X : Cx}
theorem PE.imp {e : Expr} {t t' : TE} (h : PE X e t) (i : ∀ σ H Q, t' σ H Q → t σ H Q) : PE X e t' := fun pins s σ H Q I q => h pins s σ H Q I (i σ H Q q)
theorem PT.imp {e : Expr} {t t' : TT} (h : PT X e t) (i : ∀ σ H Q, t' σ H Q → t σ H Q) : PT X e t' := fun pins s σ H Q I q => h pins s σ H Q I (i σ H Q q)
theorem PW.imp {e : Expr} {t t' : TT} (h : PW X e t) (i : ∀ σ H Q, t' σ H Q → t σ H Q) : PW X e t' := fun wh pins s σ H Q I q => h wh pins s σ H Q I (i σ H Q q)
theorem PA.imp {e : List Expr} {t t' : TA} (h : PA X e t) (i : ∀ σ H Q, t' σ H Q → t σ H Q) : PA X e t' := fun pos pins s σ H Q I q => h pos pins s σ H Q I (i σ H Q q)
theorem PS.imp {e : Stmt} {t t' : TS} (h : PS X e t) (i : ∀ D σ H, t' D σ H → t D σ H) : PS X e t' := fun pins s σ H D I q => h pins s σ H D I (i D σ H q)
theorem PSs.imp {e : List Stmt} {t t' : TS} (h : PSs X e t) (i : ∀ D σ H, t' D σ H → t D σ H) : PSs X e t' := fun pins s σ H D I q => h pins s σ H D I (i D σ H q)
theorem PG.imp {e : Expr} {t t' : TG} (h : PG X e t) (i : ∀ v σ H Q, t' v σ H Q → t v σ H Q) : PG X e t' := fun pins s σ H v u Q I r q => h pins s σ H v u Q I r (i v σ H Q q)
theorem PGs.imp {e : List Expr} {t t' : TGs} (h : PGs X e t) (i : ∀ v σ H Q, t' v σ H Q → t v σ H Q) : PGs X e t' := fun pins s σ H v u Q I r q => h pins s σ H v u Q I r (i v σ H Q q)
end
def bnd {a b : Type} (x : Option (a × HpM)) (f : a → HpM → Option b) : Option b := match x with | some (y, h) => f y h | none => none
theorem bnd_inv {a b : Type} {x : Option (a × HpM)} {f : a → HpM → Option b} {r : b} (e : bnd x f = some r) : ∃ y h, x = some (y, h) ∧ f y h = some r := by
  unfold bnd at e
  split at e
  · exact ⟨_, _, rfl, e⟩
  · cases e
end L2
set_option Elab.async false
set_option linter.all false
set_option maxRecDepth 100000
namespace L2
open PySem PySem.Spec PyProof.Rows
def mC (d : M) : FE := fun _ h => some (d, h)
def mVar (i : Nat) : FE := fun ρ h => match ρ[i]? with | some (some m) => some (m, h) | _ => none
def mNil : FA := fun _ h => some ([], h)
def mCons (a : FE) (r : FA) : FA := fun ρ h => bnd (a ρ h) fun x h1 => bnd (r ρ h1) fun xs h2 => some (x :: xs, h2)
def mLst (a : FA) : FE := fun ρ h => bnd (a ρ h) fun xs h1 => if xs.length ≤ 16777216 then some (.lst xs, h1) else none
def mLstH (a : FA) : FE := fun ρ h => bnd (a ρ h) fun xs h1 => if xs.length ≤ 16777216 then some (.ref h1.length, h1 ++ [.lst xs]) else none
def mOp (f : M → M → HpM → Option M) (a b : FE) : FE := fun ρ h => bnd (a ρ h) fun x h1 => bnd (b ρ h1) fun y h2 => (f x y h2).map (·, h2)
def mCB (f : List M → HpM → Option M) (a : FA) : FE := fun ρ h => bnd (a ρ h) fun xs h1 => (f xs h1).map (·, h1)
def mCall (f : FF) (a : FA) : FE := fun ρ h => bnd (a ρ h) fun xs h1 => f xs h1
def asB {a : Type} (x : M) (f : Bool → Option a) : Option a := match x with | .bl b => f b | _ => none
def mAnd (a b : FE) : FE := fun ρ h => bnd (a ρ h) fun x h1 => asB x fun c => if c = true then b ρ h1 else some (.bl false, h1)
def mNot (a : FE) : FE := fun ρ h => bnd (a ρ h) fun x h1 => asB x fun c => some (.bl (!c), h1)
def tV (a : FE) : FT := fun ρ h => bnd (a ρ h) fun x h1 => asB x fun c => some (c, h1)
def tAndM (a b : FT) : FT := fun ρ h => bnd (a ρ h) fun c h1 => if c = true then b ρ h1 else some (false, h1)
def tOrM (a b : FT) : FT := fun ρ h => bnd (a ρ h) fun c h1 => if c = true then some (true, h1) else b ρ h1
def tNotM (a : FT) : FT := fun ρ h => bnd (a ρ h) fun c h1 => some (!c, h1)
theorem asB_inv {a : Type} {x : M} {f : Bool → Option a} {r : a} (e : asB x f = some r) : ∃ b, x = .bl b ∧ f b = some r := by
  cases x <;> first | exact ⟨_, rfl, e⟩ | cases e
theorem map_inv {a : Type} {x : Option a} {h : HpM} {r : a × HpM} (e : x.map (·, h) = some r) : x = some r.1 ∧ r.2 = h := by
  cases x with
  | none => cases e
  | some y => cases e; exact ⟨rfl, rfl⟩
def OpM (K : PySem.W.Frag) (r : R2) (f : M → M → HpM → Option M) : Prop := ∀ (α : Pl) (h : HpM) (H : Hp) (x y d : M) (u v : V) (Q : VK), Rl K α h H → RepA K α H x u → RepA K α H y v → f x y h = some d → (∀ H' w, Same H H' → RepA K α H' d w → Q w H') → r u v H Q
def CallM (K : PySem.W.Frag) (r : List V → Hp → VK → Prop) (f : List M → HpM → Option M) : Prop := ∀ (α : Pl) (h : HpM) (H : Hp) (xs : List M) (d : M) (us : List V) (Q : VK), Rl K α h H → RepAs K α H xs us → f xs h = some d → (∀ H' w, Same H H' → RepA K α H' d w → Q w H') → r us H Q
section
variable {X : Cx} {a b c e : Expr} {es : List Expr} {ma mb mc me : FE} {mas : FA} {ta tb : FT} {pos p : Pos}
theorem me_C {v : V} {d : M} (h : PE X e (tC v)) (r : ∀ α H, RepA X.K α H d v) : PE X e (tM X.K (mC d)) := h.imp fun σ H Q ⟨α, ρ, h, d', h', hσ, hr, e, k⟩ => by
  cases e
  exact k α H v .refl hr (r α H)
theorem me_int {i j pos} : PE X (.Constant (.int i) j pos) (tM X.K (mC (.int i))) := me_C pe_int fun _ _ => rfl
theorem me_bl {b j pos} : PE X (.Constant (.bool b) j pos) (tM X.K (mC (.bl b))) := me_C pe_bl fun _ _ => rfl
theorem me_str {x j pos} : PE X (.Constant (.str x) j pos) (tM X.K (mC (.str x))) := me_C pe_str fun _ _ => rfl
theorem me_var {i : Nat} (h : PE X e (tVar i)) : PE X e (tM X.K (mVar i)) := h.imp fun σ H Q ⟨α, ρ, h, d', h', hσ, hr, e, k⟩ => by
  unfold mVar at e
  split at e
  · rename_i m em
    cases e
    obtain ⟨v, h1, h2⟩ := hσ.2 i _ em
    exact ⟨v, h1, k α H v .refl hr h2⟩
  · cases e
theorem ma_nil : PA X [] (aM X.K mNil) := pa_nil.imp fun σ H Q ⟨α, ρ, h, d', h', hσ, hr, e, k⟩ => by
  cases e
  exact k α H [] .refl hr rfl
theorem ma_cons (ha : PE X e (tM X.K ma)) (hr : PA X es (aM X.K mas)) (h : notStar e = true) : PA X (e :: es) (aM X.K (mCons ma mas)) := (pa_c ha hr h).imp fun σ H Q ⟨α, ρ, h, d', h', hσ, hr, e, k⟩ => by
  obtain ⟨x, h1, e1, e⟩ := bnd_inv e
  obtain ⟨xs, h2, e2, e⟩ := bnd_inv e
  cases e
  exact ⟨α, ρ, h, x, h1, hσ, hr, e1, fun α1 H1 u ev1 hr1 rx => ⟨α1, ρ, h1, xs, _, hσ.ev ev1, hr1, e2, fun α2 H2 us ev2 hr2 rs => k α2 H2 _ (ev1.trans ev2) hr2 ⟨u, us, rfl, rx.ev ev2, rs⟩⟩⟩
theorem me_lst (h : PA X es (aM X.K mas)) : PE X (.List es pos) (tM X.K (mLst mas)) := (pe_lst h).imp fun σ H Q ⟨α, ρ, h, d', h', hσ, hr, e, k⟩ => by
  obtain ⟨xs, h1, e1, e⟩ := bnd_inv e
  split at e
  · rename_i hl
    cases e
    refine ⟨α, ρ, h, xs, _, hσ, hr, e1, fun α1 H1 us ev1 hr1 rs => ⟨by rw [← rs.length, sizeLine_eq]; exact hl, fun p hp => ?_⟩⟩
    have s := same_new hp (.lst us)
    exact k α1 _ _ (ev1.trans (.same s)) (hr1.same s) ⟨p, us, rfl, hr1.new hp, upd_same, rs.ev (.same s)⟩
  · cases e
theorem me_lstH (h : PA X es (aM X.K mas)) : PE X (.List es pos) (tM X.K (mLstH mas)) := (pe_lst h).imp fun σ H Q ⟨α, ρ, h, d', h', hσ, hr, e, k⟩ => by
  obtain ⟨xs, h1, e1, e⟩ := bnd_inv e
  split at e
  · rename_i hl
    cases e
    refine ⟨α, ρ, h, xs, h1, hσ, hr, e1, fun α1 H1 us ev1 hr1 rs => ⟨by rw [← rs.length, sizeLine_eq]; exact hl, fun p hp => ?_⟩⟩
    have ea : Ev α1 (α1.add p) H1 (upd H1 p (.lst us)) := .alloc hp
    exact k (α1.add p) _ _ (ev1.trans ea) (hr1.alloc hp ⟨us, upd_same, rs.ev ea⟩) ⟨p, by rw [← hr1.len]; simp [Pl.add], rfl⟩
  · cases e
theorem me_op {op : Operator} {r : R2} {f : M → M → HpM → Option M} (ho : OpR X (binaryOp op) r) (hf : OpM X.K r f) (ha : PE X a (tM X.K ma)) (hb : PE X b (tM X.K mb)) : PE X (.BinOp a op b pos) (tM X.K (mOp f ma mb)) := (pe_op ho ha hb).imp fun σ H Q ⟨α, ρ, h, d, h', hσ, hr, e, k⟩ => by
  obtain ⟨x, h1, e1, e⟩ := bnd_inv e
  obtain ⟨y, h2, e2, e⟩ := bnd_inv e
  obtain ⟨e3, e4⟩ := map_inv e
  dsimp only at e3 e4
  subst e4
  exact ⟨α, ρ, h, x, h1, hσ, hr, e1, fun α1 H1 u ev1 hr1 rx => ⟨α1, ρ, h1, y, _, hσ.ev ev1, hr1, e2, fun α2 H2 v ev2 hr2 ry =>
    hf α2 _ H2 x y d u v Q hr2 (rx.ev ev2) ry e3 fun H3 w s rw => k α2 H3 w ((ev1.trans ev2).trans (.same s)) (hr2.same s) rw⟩⟩
theorem me_cmp {op : CmpOp} {r : R2} {f : M → M → HpM → Option M} (ho : OpR X (compareOp op) r) (hf : OpM X.K r f) (ha : PE X a (tM X.K ma)) (hb : PE X b (tM X.K mb)) (hm : behindInMarks op b = false) : PE X (.Compare a [op] [b] pos) (tM X.K (mOp f ma mb)) := (pe_cmpR ho ha hb hm).imp fun σ H Q ⟨α, ρ, h, d, h', hσ, hr, e, k⟩ => by
  obtain ⟨x, h1, e1, e⟩ := bnd_inv e
  obtain ⟨y, h2, e2, e⟩ := bnd_inv e
  obtain ⟨e3, e4⟩ := map_inv e
  dsimp only at e3 e4
  subst e4
  exact ⟨α, ρ, h, x, h1, hσ, hr, e1, fun α1 H1 u ev1 hr1 rx => ⟨α1, ρ, h1, y, _, hσ.ev ev1, hr1, e2, fun α2 H2 v ev2 hr2 ry =>
    hf α2 _ H2 x y d u v Q hr2 (rx.ev ev2) ry e3 fun H3 w s rw => k α2 H3 w ((ev1.trans ev2).trans (.same s)) (hr2.same s) rw⟩⟩
theorem mt_cmp {op : CmpOp} {r : R2} {f : M → M → HpM → Option M} (ho : OpR X (compareOp op) r) (hf : OpM X.K r f) (ha : PE X a (tM X.K ma)) (hb : PE X b (tM X.K mb)) (hm : behindInMarks op b = false) : PT X (.Compare a [op] [b] pos) (bM X.K (tV (mOp f ma mb))) := (pt_cmpR ho ha hb hm).imp fun σ H Q ⟨α, ρ, h, d, h', hσ, hr, e, k⟩ => by
  obtain ⟨z, h0, e0, e⟩ := bnd_inv e
  obtain ⟨q, rfl, e⟩ := asB_inv e
  cases e
  obtain ⟨x, h1, e1, e⟩ := bnd_inv e0
  obtain ⟨y, h2, e2, e⟩ := bnd_inv e
  obtain ⟨e3, e4⟩ := map_inv e
  dsimp only at e3 e4
  subst e4
  exact ⟨α, ρ, h, x, h1, hσ, hr, e1, fun α1 H1 u ev1 hr1 rx => ⟨α1, ρ, h1, y, _, hσ.ev ev1, hr1, e2, fun α2 H2 v ev2 hr2 ry =>
    hf α2 _ H2 x y _ u v _ hr2 (rx.ev ev2) ry e3 fun H3 w s rw => ⟨d, rw, k α2 H3 ((ev1.trans ev2).trans (.same s)) (hr2.same s)⟩⟩⟩
theorem mt_val {t : FE} (h : PE X e (tM X.K t)) (he : ∀ whole, isTrue e X.env whole = (do let v ← whole; standAt e.pos; holding [v] (truthy v))) : PT X e (bM X.K (tV t)) := (pt_val h he).imp fun σ H Q ⟨α, ρ, h, d, h', hσ, hr, e, k⟩ => by
  obtain ⟨z, h0, e0, e⟩ := bnd_inv e
  obtain ⟨q, rfl, e⟩ := asB_inv e
  cases e
  exact ⟨α, ρ, h, _, _, hσ, hr, e0, fun α1 H1 u ev1 hr1 rx => ⟨d, rx, k α1 H1 ev1 hr1⟩⟩
theorem mw_and1 (ha : PT X a (bM X.K ta)) : PW X (.BoolOp .And [a] pos) (bM X.K ta) := pw_and1 ha
theorem mw_or1 (ha : PT X a (bM X.K ta)) : PW X (.BoolOp .Or [a] pos) (bM X.K ta) := pw_or1 ha
theorem mw_and {rest : List Expr} (ha : PT X a (bM X.K ta)) (hb : PW X (.BoolOp .And (b :: rest) pos) (bM X.K tb)) : PW X (.BoolOp .And (a :: b :: rest) pos) (bM X.K (tAndM ta tb)) := (pw_and ha hb).imp fun σ H Q ⟨α, ρ, h, d, h', hσ, hr, e, k⟩ => by
  obtain ⟨z, h0, e0, e⟩ := bnd_inv e
  refine ⟨α, ρ, h, z, h0, hσ, hr, e0, fun α1 H1 ev1 hr1 => ?_⟩
  cases z with
  | false => cases e; exact k α1 H1 ev1 hr1
  | true => exact ⟨α1, ρ, h0, d, h', hσ.ev ev1, hr1, e, fun α2 H2 ev2 hr2 => k α2 H2 (ev1.trans ev2) hr2⟩
theorem mw_or {rest : List Expr} (ha : PT X a (bM X.K ta)) (hb : PW X (.BoolOp .Or (b :: rest) pos) (bM X.K tb)) : PW X (.BoolOp .Or (a :: b :: rest) pos) (bM X.K (tOrM ta tb)) := (pw_or ha hb).imp fun σ H Q ⟨α, ρ, h, d, h', hσ, hr, e, k⟩ => by
  obtain ⟨z, h0, e0, e⟩ := bnd_inv e
  refine ⟨α, ρ, h, z, h0, hσ, hr, e0, fun α1 H1 ev1 hr1 => ?_⟩
  cases z with
  | true => cases e; exact k α1 H1 ev1 hr1
  | false => exact ⟨α1, ρ, h0, d, h', hσ.ev ev1, hr1, e, fun α2 H2 ev2 hr2 => k α2 H2 (ev1.trans ev2) hr2⟩
theorem mt_not (ha : PT X a (bM X.K ta)) : PT X (.UnaryOp .Not a pos) (bM X.K (tNotM ta)) := (pt_not ha).imp fun σ H Q ⟨α, ρ, h, d, h', hσ, hr, e, k⟩ => by
  obtain ⟨z, h0, e0, e⟩ := bnd_inv e
  cases e
  exact ⟨α, ρ, h, z, _, hσ, hr, e0, fun α1 H1 ev1 hr1 => k α1 H1 ev1 hr1⟩
theorem me_one {op} (h : PE X a (tM X.K ma)) : PE X (.BoolOp op [a] pos) (tM X.K ma) := pe_one h
theorem me_and {rest : List Expr} (ha : PE X a (tM X.K ma)) (hb : PE X (.BoolOp .And (b :: rest) pos) (tM X.K mb)) : PE X (.BoolOp .And (a :: b :: rest) pos) (tM X.K (mAnd ma mb)) := (pe_and ha hb).imp fun σ H Q ⟨α, ρ, h, d, h', hσ, hr, e, k⟩ => by
  obtain ⟨z, h0, e0, e⟩ := bnd_inv e
  obtain ⟨q, rfl, e⟩ := asB_inv e
  refine ⟨α, ρ, h, _, h0, hσ, hr, e0, fun α1 H1 u ev1 hr1 ru => ⟨q, ru, ?_⟩⟩
  cases q with
  | false => cases e; exact k α1 H1 _ ev1 hr1 rfl
  | true => exact ⟨α1, ρ, h0, d, h', hσ.ev ev1, hr1, e, fun α2 H2 w ev2 hr2 rw => k α2 H2 w (ev1.trans ev2) hr2 rw⟩
theorem me_not (ha : PE X a (tM X.K ma)) : PE X (.UnaryOp .Not a pos) (tM X.K (mNot ma)) := (pe_not ha).imp fun σ H Q ⟨α, ρ, h, d, h', hσ, hr, e, k⟩ => by
  obtain ⟨z, h0, e0, e⟩ := bnd_inv e
  obtain ⟨q, rfl, e⟩ := asB_inv e
  cases e
  exact ⟨α, ρ, h, _, _, hσ, hr, e0, fun α1 H1 u ev1 hr1 ru => ⟨q, ru, k α1 H1 _ ev1 hr1 rfl⟩⟩
section
variable {CX : CXT} {n : Nat} {f : Addr} {fd : FuncData} {ps : List Str} {m : FF} {E : XK} {id T : String} {r : List V → Hp → VK → Prop} {g : List M → HpM → Option M} {x : Str}
theorem me_call (F : FnOk X.prog X.w X.K X.mg X.base CX n f fd ps (spM X.K m)) (hr : Room n X.A) (q : NmOk X.env.scope x .globalImplicit) (hm : X.mg x = some (.ref f)) (hk : PySem.W.keepIn X.K (.ref f) = true) (hb : Binds X.K fd ps []) (hx : Passes CX X E)
    (ha : PA X (e :: es) (aM X.K mas)) (he : notStar e = true) (hpl : (backTo pos (starEach es X.env)).any (·.1) = false) : PE X (.Call (.Name x p) (e :: es) [] pos) (tM X.K (mCall m mas)) :=
  (pe_callk F hr q hm hk hb .nil hx ha he hpl).imp fun σ H Q ⟨α, ρ, h, d, h', hσ, hr, e, k⟩ => by
  obtain ⟨xs, h0, e0, e⟩ := bnd_inv e
  exact ⟨α, ρ, h, xs, h0, hσ, hr, e0, fun α1 H1 us ev1 hr1 rs => ⟨α1, h0, xs, d, h', by rw [List.append_nil]; exact rs, hr1, e, fun α2 H2 w ev2 hr2 rw => k α2 H2 w (ev1.trans ev2) hr2 rw⟩⟩
theorem me_CB (hc : CallR X (.builtin id) r) (hg : CallM X.K r g) (q : NmOk X.env.scope x .globalImplicit) (hm : X.mg x = none) (hv : bootBuiltins x = some (.builtin id)) (ha : PA X (e :: es) (aM X.K mas)) (he : notStar e = true) (hpl : (backTo pos (starEach es X.env)).any (·.1) = false) :
    PE X (.Call (.Name x p) (e :: es) [] pos) (tM X.K (mCB g mas)) := (pe_callBk hc q hm hv ha he hpl).imp fun σ H Q ⟨α, ρ, h, d, h', hσ, hr, e, k⟩ => by
  obtain ⟨xs, h0, e0, e⟩ := bnd_inv e
  obtain ⟨e5, e6⟩ := map_inv e
  dsimp only at e5 e6
  subst e6
  exact ⟨α, ρ, h, xs, _, hσ, hr, e0, fun α1 H1 us ev1 hr1 rs => hg α1 _ H1 xs d us Q hr1 rs e5 fun H2 w s rw => k α1 H2 w (ev1.trans (.same s)) (hr1.same s) rw⟩
end
theorem me_ix {r : R2} {f : M → M → HpM → Option M} (ho : IxR X r) (hf : OpM X.K r f) (ha : PE X a (tM X.K ma)) (hb : PE X b (tM X.K mb)) (hs : PlainIx b) : PE X (.Subscript a b pos) (tM X.K (mOp f ma mb)) := (pe_ix ho ha hb hs).imp fun σ H Q ⟨α, ρ, h, d, h', hσ, hr, e, k⟩ => by
  obtain ⟨x, h1, e1, e⟩ := bnd_inv e
  obtain ⟨y, h2, e2, e⟩ := bnd_inv e
  obtain ⟨e3, e4⟩ := map_inv e
  dsimp only at e3 e4
  subst e4
  exact ⟨α, ρ, h, x, h1, hσ, hr, e1, fun α1 H1 u ev1 hr1 rx => ⟨α1, ρ, h1, y, _, hσ.ev ev1, hr1, e2, fun α2 H2 v ev2 hr2 ry =>
    hf α2 _ H2 x y d u v Q hr2 (rx.ev ev2) ry e3 fun H3 w s rw => k α2 H3 w ((ev1.trans ev2).trans (.same s)) (hr2.same s) rw⟩⟩
abbrev FO := EnvM → HpM → Option (Option Int × HpM)
def oM (K : PySem.W.Frag) (m : FO) : TO := fun σ H Q => ∃ α ρ h d h', REnv K α H ρ σ ∧ Rl K α h H ∧ m ρ h = some (d, h') ∧ ∀ α' H', Ev α α' H H' → Rl K α' h' H' → Q d H'
def oNo : FO := fun _ h => some (none, h)
def oSome (a : FE) : FO := fun ρ h => bnd (a ρ h) fun x h1 => match x with | .int i => some (some i, h1) | _ => none
theorem PO.imp {e : Option Expr} {t t' : TO} (h : PO X e t) (i : ∀ σ H Q, t' σ H Q → t σ H Q) : PO X e t' := fun pins s σ H Q I q => h pins s σ H Q I (i σ H Q q)
theorem mo_none : PO X none (oM X.K oNo) := po_none.imp fun σ H Q ⟨α, ρ, h, d, h', hσ, hr, e, k⟩ => by
  cases e
  exact k α H .refl hr
theorem mo_some (ha : PE X a (tM X.K ma)) : PO X (some a) (oM X.K (oSome ma)) := (po_some ha).imp fun σ H Q ⟨α, ρ, h, d, h', hσ, hr, e, k⟩ => by
  obtain ⟨x, h1, e1, e⟩ := bnd_inv e
  split at e
  · cases e
    exact ⟨α, ρ, h, _, _, hσ, hr, e1, fun α1 H1 u ev1 hr1 ru => ⟨_, ru, k α1 H1 ev1 hr1⟩⟩
  · cases e
def SlM (K : PySem.W.Frag) (r : V → Option Int → Option Int → Hp → VK → Prop) (f : M → Option Int → Option Int → HpM → Option M) : Prop := ∀ (α : Pl) (h : HpM) (H : Hp) (x d : M) (lo hi : Option Int) (u : V) (Q : VK), Rl K α h H → RepA K α H x u → f x lo hi h = some d → (∀ H' w, Same H H' → RepA K α H' d w → Q w H') → r u lo hi H Q
def mSl (f : M → Option Int → Option Int → HpM → Option M) (a : FE) (lo hi : FO) : FE := fun ρ h => bnd (a ρ h) fun x h1 => bnd (lo ρ h1) fun l h2 => bnd (hi ρ h2) fun u h3 => (f x l u h3).map (·, h3)
theorem me_slice {lo hi : Option Expr} {p2 : Pos} {r : V → Option Int → Option Int → Hp → VK → Prop} {f : M → Option Int → Option Int → HpM → Option M} {ml mh : FO} (hr : SlR X r) (hf : SlM X.K r f) (he : PE X a (tM X.K ma)) (hl : PO X lo (oM X.K ml)) (hu : PO X hi (oM X.K mh)) :
    PE X (.Subscript a (.Slice lo hi none p2) pos) (tM X.K (mSl f ma ml mh)) := (pe_slice hr he hl hu).imp fun σ H Q ⟨α, ρ, h, d, h', hσ, hr, e, k⟩ => by
  obtain ⟨x, h1, e1, e⟩ := bnd_inv e
  obtain ⟨l, h2, e2, e⟩ := bnd_inv e
  obtain ⟨u, h3, e3, e⟩ := bnd_inv e
  obtain ⟨e5, e6⟩ := map_inv e
  dsimp only at e5 e6
  subst e6
  exact ⟨α, ρ, h, x, h1, hσ, hr, e1, fun α1 H1 v ev1 hr1 rx => ⟨α1, ρ, h1, l, h2, hσ.ev ev1, hr1, e2, fun α2 H2 ev2 hr2 => ⟨α2, ρ, h2, u, _, hσ.ev (ev1.trans ev2), hr2, e3, fun α3 H3 ev3 hr3 =>
    hf α3 _ H3 x d l u v Q hr3 ((rx.ev ev2).ev ev3) e5 fun H4 w s rw => k α3 H4 w (((ev1.trans ev2).trans ev3).trans (.same s)) (hr3.same s) rw⟩⟩⟩
end
end L2
set_option Elab.async false
set_option linter.all false
set_option maxRecDepth 100000
namespace L2
open PySem PySem.Spec PyProof.Rows
def sNext : FS := fun ρ h => some (.nx ρ, h)
def sRet (a : FE) : FS := fun ρ h => bnd (a ρ h) fun x h1 => some (.rt x, h1)
def sSeq (a b : FS) : FS := fun ρ h => bnd (a ρ h) fun o h1 => match o with | .nx ρ' => b ρ' h1 | o => some (o, h1)
def sIf (c : FT) (a b : FS) : FS := fun ρ h => bnd (c ρ h) fun c h1 => if c = true then a ρ h1 else b ρ h1
def gNm (i : Nat) : FG := fun x ρ h => some (ρ.set i (some x), h)
def gsNil : FGs := fun xs ρ h => match xs with | [] => some (ρ, h) | _ => none
def gsCons (g : FG) (gs : FGs) : FGs := fun xs ρ h => match xs with | x :: r => bnd (g x ρ h) fun ρ' h' => gs r ρ' h' | [] => none
def gTp (n : Nat) (gs : FGs) : FG := fun x ρ h => match x with | .tup xs => if xs.length = n then gs xs ρ h else none | _ => none
def sAsg (a : FE) (g : FG) : FS := fun ρ h => bnd (a ρ h) fun x h1 => bnd (g x ρ h1) fun ρ' h2 => some (.nx ρ', h2)
abbrev FI := EnvM → HpM → Option ((List M × Option Nat) × HpM)
def okS (xs : List M) (k : Option Nat) (h : HpM) : Prop := match k with | none => True | some k => h[k]? = some (.lst xs)
section
open Classical
noncomputable def mLoop (xs : List M) (k : Option Nat) (b : M → FS) : List M → EnvM → HpM → Option (Out × HpM)
  | [], ρ, h => if okS xs k h then some (.nx ρ, h) else none
  | x :: r, ρ, h => if okS xs k h then bnd (b x ρ h) fun o h1 => match o with
      | .nx ρ' => mLoop xs k b r ρ' h1
      | .ct ρ' => mLoop xs k b r ρ' h1
      | .bk ρ' => some (.nx ρ', h1)
      | .rt d => some (.rt d, h1)
    else none
noncomputable def mComps (xs : List M) (k : Option Nat) (g : FG) (c : FT) (e : FE) (τ : EnvM) : List M → HpM → Option (List M × HpM)
  | [], h => if okS xs k h then some ([], h) else none
  | x :: r, h => if okS xs k h then bnd (g x τ h) fun τ' h1 => bnd (c τ' h1) fun t h2 => if t = true then bnd (e τ' h2) fun y h3 => bnd (mComps xs k g c e τ r h3) fun ys h4 => some (y :: ys, h4) else mComps xs k g c e τ r h2
    else none
end
noncomputable def sFor (i : FI) (g : FG) (b : FS) : FS := fun ρ h => bnd (i ρ h) fun s h1 => mLoop s.1 s.2 (fun x ρ h => bnd (g x ρ h) fun ρ' h' => b ρ' h') s.1 ρ h1
def tauM (ix : List (Option Nat)) (ρ : EnvM) : EnvM := ix.map fun o => match o with | none => none | some j => (ρ[j]?).join
noncomputable def mComp (ix : List (Option Nat)) (i : FI) (g : FG) (c : FT) (e : FE) : FE := fun ρ h => bnd (i ρ h) fun s h1 => if s.1.length ≤ 16777216 then bnd (mComps s.1 s.2 g c e (tauM ix ρ) s.1 h1) fun ys h2 => some (.lst ys, h2) else none
def mWhile (c : FT) (b : FS) : Nat → FS
  | 0, _, _ => none
  | n + 1, ρ, h => bnd (c ρ h) fun t h1 => if t = true then bnd (b ρ h1) fun o h2 => match o with
      | .nx ρ' => mWhile c b n ρ' h2
      | .ct ρ' => mWhile c b n ρ' h2
      | .bk ρ' => some (.nx ρ', h2)
      | .rt d => some (.rt d, h2)
    else some (.nx ρ, h1)
def Wk (K : PySem.W.Frag) (α : Pl) (H : Hp) (xs : List M) (k : Option Nat) (J : It) : Prop := ∀ γ : List Addr, (∀ b ∈ γ, H b = none) → ∀ α1 h1 H1, Ev ⟨α.a, γ ++ α.g⟩ α1 H H1 → Rl K α1 h1 H1 → okS xs k h1 → ∀ i : Nat,
  (∀ x, xs[i]? = some x → J.go i H1 ∧ ∀ v H2, J.yld i H1 v H2 → Same H1 H2 ∧ RepA K α1 H2 x v) ∧ (i = xs.length → J.stop i H1)
def iM (K : PySem.W.Frag) (m : FI) : TI := fun σ H R => ∃ α ρ h s h', REnv K α H ρ σ ∧ Rl K α h H ∧ m ρ h = some (s, h') ∧ ∀ α' H' J, Ev α α' H H' → Rl K α' h' H' → Wk K α' H' s.1 s.2 J → R J H'
theorem REnv.set {K : PySem.W.Frag} {α : Pl} {H : Hp} {ρ : EnvM} {σ : St} {i : Nat} {x : M} {v : V} (r : REnv K α H ρ σ) (hx : RepA K α H x v) : REnv K α H (ρ.set i (some x)) (σ.set i (some v)) := by
  refine ⟨by simp [r.1], fun j m hj => ?_⟩
  by_cases e : i = j
  · subst e
    have hl : i < ρ.length := by have := (List.getElem?_eq_some_iff.mp hj).1; simpa using this
    rw [List.getElem?_set_self hl] at hj
    cases hj
    exact ⟨v, by rw [List.getElem?_set_self (by rw [← r.1]; exact hl)], hx⟩
  · rw [List.getElem?_set_ne e] at hj
    obtain ⟨w, h1, h2⟩ := r.2 j m hj
    exact ⟨w, by rw [List.getElem?_set_ne e]; exact h1, h2⟩
theorem REnv.tau {K : PySem.W.Frag} {α : Pl} {H : Hp} {ρ : EnvM} {σ : St} {ix : List (Option Nat)} (r : REnv K α H ρ σ) : REnv K α H (tauM ix ρ) (tau ix σ) := by
  refine ⟨by simp [tauM, L2.tau], fun j m hj => ?_⟩
  unfold tauM at hj
  rw [List.getElem?_map] at hj
  cases e : ix[j]? with
  | none => rw [e] at hj; cases hj
  | some o =>
    rw [e] at hj
    cases o with
    | none => cases hj
    | some q =>
      have hj' : (ρ[q]?).join = some m := Option.some.inj hj
      have hq : ρ[q]? = some (some m) := by
        cases e2 : ρ[q]? with
        | none => rw [e2] at hj'; cases hj'
        | some z => rw [e2] at hj'; exact congrArg some hj'
      obtain ⟨v, h1, h2⟩ := r.2 q m hq
      refine ⟨v, ?_, h2⟩
      unfold L2.tau
      rw [List.getElem?_map, e]
      show some (σ[q]?).join = _
      rw [h1]
      rfl
section
variable {X : Cx} {a b c e o : Expr} {es : List Expr} {ma mb mc me : FE} {mas : FA} {tc : FT} {st : Stmt} {rest : List Stmt} {ms mr : FS} {g : FG} {gs : FGs} {pos p : Pos}
theorem mss_nil : PSs X [] (sM X.K sNext) := pss_nil.imp fun D σ H ⟨α, ρ, h, d, h', hσ, hr, e, k⟩ => by
  cases e
  exact k α H .refl hr σ hσ
theorem mss_one (h : PS X st (sM X.K ms)) : PSs X [st] (sM X.K ms) := pss_one h
theorem mss_cons (h1 : PS X st (sM X.K ms)) (h2 : PSs X rest (sM X.K mr)) : PSs X (st :: rest) (sM X.K (sSeq ms mr)) := (pss_cons h1 h2).imp fun D σ H ⟨α, ρ, h, d, h', hσ, hr, e, k⟩ => by
  obtain ⟨o, h1, e1, e⟩ := bnd_inv e
  refine ⟨α, ρ, h, o, h1, hσ, hr, e1, fun α1 H1 ev1 hr1 => ?_⟩
  cases o with
  | nx ρ' => exact fun σ' hσ' => ⟨α1, ρ', h1, d, h', hσ', hr1, e, fun α2 H2 ev2 hr2 => k α2 H2 (ev1.trans ev2) hr2⟩
  | bk ρ' => cases e; exact k α1 H1 ev1 hr1
  | ct ρ' => cases e; exact k α1 H1 ev1 hr1
  | rt x => cases e; exact k α1 H1 ev1 hr1
theorem ms_ret (he : PE X e (tM X.K me)) : PS X (.Return (some e) pos) (sM X.K (sRet me)) := (ps_ret he).imp fun D σ H ⟨α, ρ, h, d, h', hσ, hr, e, k⟩ => by
  obtain ⟨x, h1, e1, e⟩ := bnd_inv e
  cases e
  exact ⟨α, ρ, h, x, _, hσ, hr, e1, fun α1 H1 v ev1 hr1 rv => k α1 H1 ev1 hr1 v rv⟩
theorem ms_if {s1 s2 : List Stmt} (hc : PT X c (bM X.K tc)) (ha : PSs X s1 (sM X.K ms)) (hb : PSs X s2 (sM X.K mr)) : PS X (.If c s1 s2 pos) (sM X.K (sIf tc ms mr)) := (ps_if hc ha hb).imp fun D σ H ⟨α, ρ, h, d, h', hσ, hr, e, k⟩ => by
  obtain ⟨z, h1, e1, e⟩ := bnd_inv e
  refine ⟨α, ρ, h, z, h1, hσ, hr, e1, fun α1 H1 ev1 hr1 => ?_⟩
  cases z with
  | true => exact ⟨α1, ρ, h1, d, h', hσ.ev ev1, hr1, e, fun α2 H2 ev2 hr2 => k α2 H2 (ev1.trans ev2) hr2⟩
  | false => exact ⟨α1, ρ, h1, d, h', hσ.ev ev1, hr1, e, fun α2 H2 ev2 hr2 => k α2 H2 (ev1.trans ev2) hr2⟩
theorem mg_name {i : Nat} (h : PG X e (gName i)) : PG X e (gM X.K (gNm i)) := h.imp fun v σ H Q ⟨α, ρ, h, x, ρ', h', hσ, hr, rx, e, k⟩ => by
  cases e
  exact k α H _ .refl hr (hσ.set rx)
theorem mgs_nil : PGs X [] (gsM X.K gsNil) := pgs_nil.imp fun v σ H Q ⟨α, ρ, h, x, ρ', h', hσ, hr, rx, e, k⟩ => by
  cases x with
  | nil => cases e; exact ⟨rx, k α H _ .refl hr hσ⟩
  | cons _ _ => cases e
theorem mgs_cons (h1 : PG X e (gM X.K g)) (h2 : PGs X es (gsM X.K gs)) (hs : (assignEach (e :: es) X.env).map (·.2) = assign e X.env :: (assignEach es X.env).map (·.2)) : PGs X (e :: es) (gsM X.K (gsCons g gs)) := (pgs_cons h1 h2 hs).imp fun v σ H Q ⟨α, ρ, h, x, ρ', h', hσ, hr, rx, e, k⟩ => by
  cases x with
  | nil => cases e
  | cons x r =>
    obtain ⟨u, us, rfl, ru, rs⟩ := rx
    obtain ⟨ρ1, h1, e1, e⟩ := bnd_inv e
    exact ⟨u, us, rfl, α, ρ, h, x, ρ1, h1, hσ, hr, ru, e1, fun α1 H1 σ1 ev1 hr1 hσ1 => ⟨α1, ρ1, h1, r, ρ', h', hσ1, hr1, rs.ev ev1, e, fun α2 H2 σ2 ev2 hr2 hσ2 => k α2 H2 σ2 (ev1.trans ev2) hr2 hσ2⟩⟩
theorem mg_tup {k : Nat} {n : Nat} (hc : X.calm = true) (h : PGs X es (gsM X.K gs)) (hn : (assignEach es X.env).length = n) (hst : (assignEach es X.env).findIdx? (·.1) = none) : PG X (.Tuple es k pos) (gM X.K (gTp n gs)) := (pg_tup hc h hn hst).imp fun v σ H Q ⟨α, ρ, h, x, ρ', h', hσ, hr, rx, e, k⟩ => by
  unfold gTp at e
  split at e
  · split at e
    · rename_i xs hl
      obtain ⟨a, vs, rfl, t, rs⟩ := rx
      exact ⟨a, vs, rfl, t.sq, by rw [← rs.length]; exact hl, α, ρ, h, xs, ρ', h', hσ, hr, rs, e, k⟩
    · cases e
  · cases e
theorem ms_asg {tg : Expr} (he : PE X e (tM X.K me)) (hg : PG X tg (gM X.K g)) (hs : swapsWithSole [tg] e pos.line X.env = pure false) (hw : swappedStores [tg] e X.env = pure none) (h1 : (assignEach [tg] X.env).map (·.2) = [assign tg X.env]) :
    PS X (.Assign [tg] e pos) (sM X.K (sAsg me g)) := (ps_asg he hg hs hw h1).imp fun D σ H ⟨α, ρ, h, d, h', hσ, hr, e, k⟩ => by
  obtain ⟨x, h1, e1, e⟩ := bnd_inv e
  obtain ⟨ρ1, h2, e2, e⟩ := bnd_inv e
  cases e
  exact ⟨α, ρ, h, x, h1, hσ, hr, e1, fun α1 H1 v ev1 hr1 rv => ⟨α1, ρ, h1, x, ρ1, _, hσ.ev ev1, hr1, rv, e2, fun α2 H2 σ2 ev2 hr2 hσ2 => k α2 H2 (ev1.trans ev2) hr2 σ2 hσ2⟩⟩
theorem ms_set {i : Nat} {x : Str} {pos' : Pos} (hN : X.N.Nodup) (hi : X.N[i]? = some x) (hx : Loc X.env.scope x) (he : PE X e (tM X.K me)) (hs : notComp e = true) (hf : X.fn x = true) :
    PS X (.Assign [.Name x pos'] e pos) (sM X.K (sAsg me (gNm i))) := (ps_setk hN hi hx he hs hf).imp fun D σ H ⟨α, ρ, h, d, h', hσ, hr, e, k⟩ => by
  obtain ⟨x, h1, e1, e⟩ := bnd_inv e
  cases e
  exact ⟨α, ρ, h, x, _, hσ, hr, e1, fun α1 H1 v ev1 hr1 rv => k α1 H1 ev1 hr1 _ ((hσ.ev ev1).set rv)⟩
theorem ms_while {body : List Stmt} (N : Nat) (hp : PassesOwn (model X.prog X.w) X.A X.env X.xe) (hc : PT X c (bM X.K tc)) (hb : PSs X body (sM X.K ms)) : PS X (.While c body [] pos) (sM X.K (mWhile tc ms N)) := (ps_while hp hc hb).imp fun D σ H ⟨α, ρ, h, d, h', hσ, hr, e, k⟩ => by
  refine ⟨fun m σ H => ∃ α ρ h, REnv X.K α H ρ σ ∧ Rl X.K α h H ∧ mWhile tc ms m ρ h = some (d, h') ∧ ∀ α' H', Ev α α' H H' → Rl X.K α' h' H' → Fin X.K D α' H' d, ⟨N, α, ρ, h, hσ, hr, e, k⟩, ?_⟩
  rintro m σ H ⟨α, ρ, h, hσ, hr, e, k⟩
  cases m with
  | zero => cases e
  | succ m =>
    obtain ⟨t, h1, e1, e⟩ := bnd_inv e
    refine ⟨α, ρ, h, t, h1, hσ, hr, e1, fun α1 H1 ev1 hr1 => ?_⟩
    cases t with
    | false => cases e; exact k α1 H1 ev1 hr1 σ (hσ.ev ev1)
    | true =>
      obtain ⟨o, h2, e2, e⟩ := bnd_inv e
      refine ⟨fun σ' H' => ∃ α ρ h, REnv X.K α H' ρ σ' ∧ Rl X.K α h H' ∧ mWhile tc ms m ρ h = some (d, h') ∧ ∀ α' H'', Ev α α' H' H'' → Rl X.K α' h' H'' → Fin X.K D α' H'' d, fun σ' H' q => ⟨m, Nat.lt_succ_self m, q⟩, α1, ρ, h1, o, h2, hσ.ev ev1, hr1, e2, fun α2 H2 ev2 hr2 => ?_⟩
      cases o with
      | nx ρ' => exact fun σ' hσ' => ⟨α2, ρ', h2, hσ', hr2, e, fun α3 H3 ev3 hr3 => k α3 H3 ((ev1.trans ev2).trans ev3) hr3⟩
      | ct ρ' => exact fun σ' hσ' => ⟨α2, ρ', h2, hσ', hr2, e, fun α3 H3 ev3 hr3 => k α3 H3 ((ev1.trans ev2).trans ev3) hr3⟩
      | bk ρ' => cases e; exact fun σ' hσ' => k α2 H2 (ev1.trans ev2) hr2 σ' hσ'
      | rt x => cases e; exact fun v rv => k α2 H2 (ev1.trans ev2) hr2 v rv
theorem ms_for {iter tg : Expr} {body : List Stmt} {mi : FI} (hp : PassesOwn (model X.prog X.w) X.A X.env X.xe) (hc : X.calm = true) (hi : PI X tg iter (iM X.K mi)) (hg : PG X tg (gM X.K g)) (hb : PSs X body (sM X.K ms)) (hs : ∀ x, foldedSetIterable iter X.env x = pure x) :
    PS X (.For tg iter body [] pos) (sM X.K (sFor mi g ms)) := (ps_for hp hc hi hg hb hs).imp fun D σ H ⟨α, ρ, h, d, h', hσ, hr, e, k⟩ => by
  obtain ⟨s, h1, e1, e⟩ := bnd_inv e
  refine ⟨α, ρ, h, s, h1, hσ, hr, e1, fun α1 H1 J ev1 hr1 wk => ?_⟩
  refine ⟨fun i m σ2 H2 => m = s.1.length - i ∧ i ≤ s.1.length ∧ ∃ α2 ρ2 h2, Ev α1 α2 H1 H2 ∧ REnv X.K α2 H2 ρ2 σ2 ∧ Rl X.K α2 h2 H2 ∧ mLoop s.1 s.2 (fun x ρ h => bnd (g x ρ h) fun ρ' h' => ms ρ' h') (s.1.drop i) ρ2 h2 = some (d, h'), ⟨_, rfl, Nat.zero_le _, α1, ρ, h1, .refl, hσ.ev ev1, hr1, e⟩, ?_⟩
  rintro i m σ2 H2 ⟨rfl, hi, α2, ρ2, h2, ev2, hσ2, hr2, e⟩
  by_cases hlt : i < s.1.length
  · right
    rw [List.drop_eq_getElem_cons hlt] at e
    unfold mLoop at e
    split at e
    · rename_i ok
      obtain ⟨go, yl⟩ := (wk [] (by simp) α2 h2 H2 ev2 hr2 ok i).1 s.1[i] (by simp [hlt])
      refine ⟨go, fun σ' H' => ∃ α3 ρ3 h3, Ev α1 α3 H1 H' ∧ REnv X.K α3 H' ρ3 σ' ∧ Rl X.K α3 h3 H' ∧ mLoop s.1 s.2 (fun x ρ h => bnd (g x ρ h) fun ρ' h' => ms ρ' h') (s.1.drop (i + 1)) ρ3 h3 = some (d, h'), fun σ' H' q => ⟨_, by omega, rfl, hlt, q⟩, fun v H3 y => ?_⟩
      obtain ⟨s3, rv⟩ := yl v H3 y
      obtain ⟨o, h4, e4, e⟩ := bnd_inv e
      obtain ⟨ρ5, h5, e5, e4⟩ := bnd_inv e4
      refine ⟨α2, ρ2, h2, _, ρ5, h5, hσ2.ev (.same s3), hr2.same s3, rv, e5, fun α5 H5 σ5 ev5 hr5 hσ5 => ?_⟩
      refine ⟨α5, ρ5, h5, o, h4, hσ5, hr5, e4, fun α6 H6 ev6 hr6 => ?_⟩
      have evA : Ev α1 α6 H1 H6 := ((ev2.trans (.same s3)).trans ev5).trans ev6
      cases o with
      | nx ρ' => exact fun σ' hσ' => ⟨α6, ρ', h4, evA, hσ', hr6, e⟩
      | ct ρ' => exact fun σ' hσ' => ⟨α6, ρ', h4, evA, hσ', hr6, e⟩
      | bk ρ' => cases e; exact fun σ' hσ' => k α6 H6 (ev1.trans evA) hr6 σ' hσ'
      | rt x => cases e; exact fun v rv => k α6 H6 (ev1.trans evA) hr6 v rv
    · cases e
  · left
    have ei : i = s.1.length := by omega
    subst ei
    rw [List.drop_length] at e
    unfold mLoop at e
    split at e
    · rename_i ok
      cases e
      exact ⟨(wk [] (by simp) α2 _ H2 ev2 hr2 ok _).2 rfl, k α2 H2 (ev1.trans ev2) hr2 σ2 hσ2⟩
    · cases e
def CG (K : PySem.W.Frag) (ix : List (Option Nat)) (g0 : TG) (g : FG) : Prop := ∀ (α : Pl) (h : HpM) (H : Hp) (σ σ1 : St) (ρ1 : EnvM) (x : M) (v : V) (ρ' : EnvM) (h' : HpM) (Q : St → Hp → Prop), Kept0 ix σ σ1 → REnv K α H ρ1 σ1 → RepA K α H x v → g x ρ1 h = some (ρ', h') →
  (∀ σ', Kept0 ix σ σ' → REnv K α H ρ' σ' → h' = h → Q σ' H) → g0 v σ1 H Q
theorem cg_name {K : PySem.W.Frag} {ix : List (Option Nat)} {i : Nat} (hi : ix[i]? = some none) : CG K ix (gName i) (gNm i) := by
  intro α h H σ σ1 ρ1 x v ρ' h' Q kp hσ rx e k
  cases e
  refine k _ ⟨by simp [kp.1], fun q w hq => ?_⟩ (hσ.set rx) rfl
  by_cases z : i = q
  · subst z
    unfold L2.tau at hq
    rw [List.getElem?_map, hi] at hq
    cases hq
  · rw [List.getElem?_set_ne z]; exact kp.2 q w hq
theorem PTs.imp {es : List Expr} {t t' : TT} (h : PTs X es t) (i : ∀ σ H Q, t' σ H Q → t σ H Q) : PTs X es t' := fun pins s σ H Q I q => h pins s σ H Q I (i σ H Q q)
def tTrueM : FT := fun _ h => some (true, h)
theorem mts_nil : PTs X [] (bM X.K tTrueM) := pts_nil.imp fun σ H Q ⟨α, ρ, h, d, h', hσ, hr, e, k⟩ => by
  cases e
  exact k α H .refl hr
theorem mts_one (h : PT X c (bM X.K tc)) : PTs X [c] (bM X.K tc) := pts_one h
theorem kept_tau {ix : List (Option Nat)} {σ : St} : Kept0 ix σ (tau ix σ) := ⟨by simp [L2.tau], fun _ _ h => h⟩
theorem comp_reads {K : PySem.W.Frag} {ix : List (Option Nat)} {mi : FI} {g0 : TG} {g : FG} {tc : FT} {me : FE} (cg : CG K ix g0 g) {σ : St} {H : Hp} {Q : VK} (q : tM K (mComp ix mi g tc me) σ H Q) : tComp ix (iM K mi) g0 (bM K tc) (tM K me) σ H Q := by
  obtain ⟨α, ρ, h, d, h', hσ, hr, e, k⟩ := q
  obtain ⟨s, h1, e1, e⟩ := bnd_inv e
  split at e
  · rename_i hl
    obtain ⟨ys, h2, e2, e⟩ := bnd_inv e
    cases e
    refine ⟨α, ρ, h, s, h1, hσ, hr, e1, fun α1 H1 J ev1 hr1 wk D hD => ?_⟩
    have hσ1 := (hσ.ev ev1).tau (ix := ix)
    have hDg : D ∉ α1.g := fun hm => by
      obtain ⟨o, e⟩ := hr1.hid D hm
      rw [hD] at e; cases e
    have hγ : ∀ b ∈ [D], H1 b = none := fun b hb => by rw [List.mem_singleton.mp hb]; exact hD
    refine ⟨fun i m acc H2 => m = s.1.length - i ∧ i ≤ s.1.length ∧ acc.length ≤ i ∧ ∃ a2 h2 zs rs, ys = zs ++ rs ∧ Ev (α1.hide D) (Pl.hide ⟨a2, α1.g⟩ D) H1 H2 ∧ Rl K (Pl.hide ⟨a2, α1.g⟩ D) h2 H2 ∧ REnv K (Pl.hide ⟨a2, α1.g⟩ D) H2 (tauM ix ρ) (tau ix σ) ∧ RepAs K (Pl.hide ⟨a2, α1.g⟩ D) H2 zs acc ∧ mComps s.1 s.2 g tc me (tauM ix ρ) (s.1.drop i) h2 = some (rs, h'),
      ⟨_, rfl, Nat.zero_le _, Nat.zero_le _, α1.a, h1, [], ys, rfl, .same (same_new hD _), hr1.lay hD, (hσ1.hide hD).ev (.same (same_new hD _)), rfl, e2⟩, ?_⟩
    rintro i m acc H2 ⟨rfl, hi, hacc, a2, h2, zs, rs, ey, ev2, hr2, hσ2, rz, e⟩ hDa
    have hDm : D ∈ (Pl.hide ⟨a2, α1.g⟩ D).g := List.mem_cons_self
    have hDn : D ∉ a2 := fun hm => hr2.ap D hm hDm
    by_cases hlt : i < s.1.length
    · right
      rw [List.drop_eq_getElem_cons hlt] at e
      unfold mComps at e
      split at e
      · rename_i ok
        obtain ⟨go, yl⟩ := (wk [D] hγ _ h2 H2 ev2 hr2 ok i).1 s.1[i] (by simp [hlt])
        refine ⟨go, by rw [sizeLine_eq]; omega, fun v H3 y => ?_⟩
        obtain ⟨s3, rv⟩ := yl v H3 y
        obtain ⟨τ', h3, e3, e⟩ := bnd_inv e
        obtain ⟨t, h4, e4, e⟩ := bnd_inv e
        refine cg _ h2 H3 σ (tau ix σ) (tauM ix ρ) _ v τ' h3 _ kept_tau (hσ2.ev (.same s3)) rv e3 fun σ' kp hσ' eh => ⟨kp, ?_⟩
        subst eh
        refine ⟨_, τ', _, t, h4, hσ', hr2.same s3, e4, fun α4 H4 ev4 hr4 => ?_⟩
        have hD4 : H4 D = some (.lst acc) := ev4.keep _ _ (s3 _ _ hDa) hDn
        have hg4 : α4.g = D :: α1.g := ev4.pre.1
        have ea4 : α4 = Pl.hide ⟨α4.a, α1.g⟩ D := by cases α4; cases hg4; rfl
        have evA : Ev (α1.hide D) α4 H1 H4 := (ev2.trans (.same s3)).trans ev4
        cases t with
        | false =>
          refine ⟨hD4, _, ?_, rfl, hlt, by omega, α4.a, h4, zs, rs, ey, ?_, ?_, ?_, ?_, e⟩
          · omega
          · rw [← ea4]; exact evA
          · rw [← ea4]; exact hr4
          · rw [← ea4]; exact (hσ2.ev (.same s3)).ev ev4
          · rw [← ea4]; exact (rz.ev (.same s3)).ev ev4
        | true =>
          obtain ⟨y, h5, e5, e⟩ := bnd_inv e
          obtain ⟨rs', h6, e6, e⟩ := bnd_inv e
          cases e
          refine ⟨α4, τ', h4, y, h5, hσ'.ev ev4, hr4, e5, fun α5 H5 w ev5 hr5 rw' => ?_⟩
          have hD4n : D ∉ α4.a := fun hm => hr4.ap D hm (by rw [hg4]; exact List.mem_cons_self)
          have hD5 : H5 D = some (.lst acc) := ev5.keep _ _ hD4 hD4n
          have hg5 : α5.g = D :: α1.g := ev5.pre.1.trans hg4
          have hD5m : D ∈ α5.g := by rw [hg5]; exact List.mem_cons_self
          have ea5 : α5 = Pl.hide ⟨α5.a, α1.g⟩ D := by cases α5; cases hg5; rfl
          refine ⟨hD5, _, ?_, rfl, hlt, by simp; omega, α5.a, h5, zs ++ [y], rs', by rw [ey]; simp, ?_, ?_, ?_, ?_, e6⟩
          · omega
          · rw [← ea5]; exact (evA.trans ev5).hw hD
          · rw [← ea5]; exact hr5.hw hD5m
          · rw [← ea5]; exact (((hσ2.ev (.same s3)).ev ev4).ev ev5).hw hD5m
          · rw [← ea5]; exact ((((rz.ev (.same s3)).ev ev4).ev ev5).snoc rw').hw hD5m
      · cases e
    · left
      have ei : i = s.1.length := by omega
      subst ei
      rw [List.drop_length] at e
      unfold mComps at e
      split at e
      · rename_i ok
        cases e
        refine ⟨(wk [D] hγ _ _ H2 ev2 hr2 ok _).2 rfl, k ⟨a2, α1.g⟩ H2 _ (ev1.trans ev2.unhide) hr2.show ⟨D, acc, rfl, ⟨hDn, hDg⟩, hDa, ?_⟩⟩
        rw [ey, List.append_nil]; exact rz.show
      · cases e
  · cases e
theorem me_comp {elt tg iter : Expr} {ifs : List Expr} {scope : Scope} {N' : List Str} {ix : List (Option Nat)} {mi : FI} {g0 : TG}
    (S : CompScope X N' ix scope) (hcalm : X.calm = true) (cg : CG X.K ix g0 g) (hi : PI X tg iter (iM X.K mi))
    (hg : ∀ C s₀ H₀ fp, PG (X.comp scope (clOf X.env.cells scope.names []) C s₀ H₀ fp N') tg g0)
    (ht : ∀ C s₀ H₀ fp, PTs (X.comp scope (clOf X.env.cells scope.names []) C s₀ H₀ fp N') ifs (bM (X.comp scope (clOf X.env.cells scope.names []) C s₀ H₀ fp N').K tc))
    (he : ∀ C s₀ H₀ fp, PE (X.comp scope (clOf X.env.cells scope.names []) C s₀ H₀ fp N') elt (tM (X.comp scope (clOf X.env.cells scope.names []) C s₀ H₀ fp N').K me))
    (hs : ∀ x, foldedSetIterable iter X.env x = pure x) : PE X (.ListComp elt [⟨tg, iter, ifs, 0⟩] scope pos) (tM X.K (mComp ix mi g tc me)) :=
  (pe_comp S hcalm hi hg ht he hs).imp fun σ H Q q => comp_reads cg q
end
end L2
set_option Elab.async false
set_option linter.all false
set_option maxRecDepth 100000
namespace L2
open PySem PySem.Spec PyProof.Rows
section
variable {X : Cx} {a b c e o : Expr} {es : List Expr} {ma mb mc me : FE} {mas : FA} {tc : FT} {st : Stmt} {rest : List Stmt} {ms mr : FS} {g : FG} {gs : FGs} {pos p : Pos}
theorem ms_setC {elt tg iter : Expr} {ifs : List Expr} {scope : Scope} {pos' spos : Pos} {N' : List Str} {ix : List (Option Nat)} {mi : FI} {g0 : TG} {k : Nat} {x : Str}
    (hN : X.N.Nodup) (hk : X.N[k]? = some x) (hx : X.env.scope.names.lookup x = some .local)
    (S : CompScope X N' ix scope) (hcalm : X.calm = true) (cg : CG X.K ix g0 g) (hi : PI X tg iter (iM X.K mi))
    (hg : ∀ C s₀ H₀ fp, PG (X.comp scope (clOf X.env.cells scope.names []) C s₀ H₀ fp N') tg g0)
    (ht : ∀ C s₀ H₀ fp, PTs (X.comp scope (clOf X.env.cells scope.names []) C s₀ H₀ fp N') ifs (bM (X.comp scope (clOf X.env.cells scope.names []) C s₀ H₀ fp N').K tc))
    (he : ∀ C s₀ H₀ fp, PE (X.comp scope (clOf X.env.cells scope.names []) C s₀ H₀ fp N') elt (tM (X.comp scope (clOf X.env.cells scope.names []) C s₀ H₀ fp N').K me))
    (hsw : swapsWith (.ListComp elt [⟨tg, iter, ifs, 0⟩] scope pos) (some (.Name x pos')) spos.line X.env = pure true)
    (hs : ∀ x, foldedSetIterable iter X.env x = pure x) :
    PS X (.Assign [.Name x pos'] (.ListComp elt [⟨tg, iter, ifs, 0⟩] scope pos) spos) (sM X.K (sAsg (mComp ix mi g tc me) (gNm k))) :=
  (ps_setC hN hk hx S hcalm hi hg ht he hsw hs).imp fun D σ H ⟨α, ρ, h, d, h', hσ, hr, e, kk⟩ => by
    obtain ⟨x, h1, e1, e⟩ := bnd_inv e
    cases e
    exact comp_reads cg ⟨α, ρ, h, x, _, hσ, hr, e1, fun α1 H1 v ev1 hr1 rv => kk α1 H1 ev1 hr1 _ ((hσ.ev ev1).set rv)⟩
theorem PI.imp {tg iter : Expr} {t t' : TI} (h : PI X tg iter t) (i : ∀ σ H R, t' σ H R → t σ H R) : PI X tg iter t' := fun pins s σ H R I q => h pins s σ H R I (i σ H R q)
def iL (a : FE) : FI := fun ρ h => bnd (a ρ h) fun x h1 => match x with
  | .lst xs => some ((xs, none), h1)
  | .scr ns => some ((ns.map M.int, none), h1)
  | .ref k => (match h1[k]? with | some (.lst xs) => some ((xs, some k), h1) | _ => none)
  | _ => none
def iR1 (a : FA) : FI := fun ρ h => bnd (a ρ h) fun xs h1 => match xs with | [.int j] => if -4611686018427387904 ≤ j ∧ j < 4611686018427387904 then some (((List.range j.toNat).map fun (i : Nat) => M.int (i : Int), none), h1) else none | _ => none
theorem RepAs.ints {K : PySem.W.Frag} {α : Pl} {H : Hp} : ∀ {ns : List Int}, RepAs K α H (ns.map M.int) (ns.map V.int)
  | [] => rfl
  | n :: ns => ⟨_, _, rfl, rfl, RepAs.ints⟩
theorem RepA.hides {K : PySem.W.Frag} {α : Pl} {H : Hp} {m : M} {v : V} (r : RepA K α H m v) : ∀ {γ : List Addr}, (∀ b ∈ γ, H b = none) → RepA K ⟨α.a, γ ++ α.g⟩ H m v
  | [], _ => r
  | p :: γ, h => RepA.hide (α := ⟨α.a, γ ++ α.g⟩) (h p List.mem_cons_self) (RepA.hides r fun b hb => h b (List.mem_cons_of_mem _ hb))
theorem wk_list {K : PySem.W.Frag} {α : Pl} {H : Hp} {a : Addr} {xs : List M} {k : Option Nat} (hs : ∀ γ, (∀ b ∈ γ, H b = none) → ∀ α1 h1 H1, Ev ⟨α.a, γ ++ α.g⟩ α1 H H1 → Rl K α1 h1 H1 → okS xs k h1 → ∃ vs, SqL K H1 a vs ∧ RepAs K α1 H1 xs vs) : Wk K α H xs k (Itl K a) := by
  intro γ hγ α1 h1 H1 ev hr ok i
  obtain ⟨vs, sq, rs⟩ := hs γ hγ α1 h1 H1 ev hr ok
  refine ⟨fun x hx => ?_, fun hl => ⟨vs, sq, by rw [← rs.length]; omega⟩⟩
  obtain ⟨v, hv, rv⟩ := rs.get hx
  refine ⟨⟨vs, v, sq, hv⟩, fun w H2 y => ?_⟩
  obtain ⟨e1, e2⟩ := y
  subst e1
  have := e2 vs sq
  rw [hv] at this
  cases this
  exact ⟨Same.refl _, rv⟩
theorem mi_list {l tg : Expr} {ml : FE} (hl : PE X l (tM X.K ml)) : PI X tg l (iM X.K (iL ml)) := (pi_list hl).imp fun σ H R ⟨α, ρ, h, s, h', hσ, hr, e, k⟩ => by
  obtain ⟨x, h1, e1, e⟩ := bnd_inv e
  split at e
  · cases e
    refine ⟨α, ρ, h, _, _, hσ, hr, e1, fun α1 H1 v ev1 hr1 rv => ?_⟩
    obtain ⟨a, vs, rfl, n, ha, rs⟩ := id rv
    refine ⟨a, rfl, ⟨vs, .of ha⟩, k α1 H1 _ ev1 hr1 (wk_list fun γ hγ α2 h2 H2 ev2 hr2 _ => ?_)⟩
    obtain ⟨a', vs', ea, n', ha', rs'⟩ := (rv.hides hγ).ev ev2
    cases ea
    exact ⟨vs', .of ha', rs'⟩
  · cases e
    refine ⟨α, ρ, h, _, _, hσ, hr, e1, fun α1 H1 v ev1 hr1 rv => ?_⟩
    obtain ⟨a, rfl, ha⟩ := id rv
    refine ⟨a, rfl, ⟨_, ha.sq⟩, k α1 H1 _ ev1 hr1 (wk_list fun γ hγ α2 h2 H2 ev2 hr2 _ => ?_)⟩
    obtain ⟨a', ea, ha'⟩ := (rv.hides hγ).ev ev2
    cases ea
    exact ⟨_, ha'.sq, RepAs.ints⟩
  · split at e
    · rename_i k0 xs hk
      cases e
      refine ⟨α, ρ, h, _, _, hσ, hr, e1, fun α1 H1 v ev1 hr1 rv => ?_⟩
      obtain ⟨a, ha, rfl⟩ := id rv
      obtain ⟨vs, hv, rs⟩ := hr1.obj _ a _ ha hk
      refine ⟨a, rfl, ⟨_, .of hv⟩, k α1 H1 _ ev1 hr1 (wk_list fun γ hγ α2 h2 H2 ev2 hr2 ok => ?_)⟩
      obtain ⟨vs', hv', rs'⟩ := hr2.obj _ a _ (ev2.ix ha) ok
      exact ⟨_, .of hv', rs'⟩
    · cases e
  · cases e
theorem wk_range {K : PySem.W.Frag} {α : Pl} {H : Hp} {lo : Int} {n : Nat} : Wk K α H ((List.range n).map fun (q : Nat) => M.int (lo + q)) none (Itr lo n) := by
  intro γ hγ α2 h2 H2 ev2 hr2 _ i
  refine ⟨fun x hx => ?_, fun hl => show n ≤ i by simp at hl; omega⟩
  have hi : i < n := by simpa using (List.getElem?_eq_some_iff.mp hx).1
  rw [List.getElem?_map, List.getElem?_range hi] at hx
  cases hx
  refine ⟨hi, fun w H3 y => ?_⟩
  obtain ⟨e1, ew⟩ := y
  subst e1 ew
  exact ⟨Same.refl _, rfl⟩
theorem mi_range1 {a tg : Expr} (hg : Gl X "range") (hm : X.mg "range" = none) (ha : PA X [a] (aM X.K mas)) (hs : starEach [a] X.env = [(false, eval a X.env)]) : PI X tg (.Call (.Name "range" p) [a] [] pos) (iM X.K (iR1 mas)) := (pi_range1 hg hm ha hs).imp fun σ H R ⟨α, ρ, h, s, h', hσ, hr, e, k⟩ => by
  obtain ⟨xs, h1, e1, e⟩ := bnd_inv e
  split at e
  · rename_i j
    split at e
    · rename_i hj
      cases e
      refine ⟨α, ρ, h, _, _, hσ, hr, e1, fun α1 H1 vs ev1 hr1 rv => ?_⟩
      obtain ⟨v, r, rfl, rv, rr⟩ := rv
      cases (show r = [] from rr)
      cases (show v = .int j from rv)
      refine ⟨j, rfl, by omega, by omega, k α1 H1 _ ev1 hr1 ?_⟩
      have := wk_range (K := X.K) (α := α1) (H := H1) (lo := 0) (n := j.toNat)
      simp only [Int.zero_add] at this
      exact this
    · cases e
  · cases e
def mFun (n k : Nat) (b : FS) : FF := fun ds h => if ds.length = n then bnd (b (ds.map some ++ List.replicate k none) h) fun o h1 => match o with
  | .rt d => some (d, h1)
  | .nx _ => some (.non, h1)
  | _ => none else none
theorem REnv.start {K : PySem.W.Frag} {α : Pl} {H : Hp} : ∀ {ds : List M} {vs : List V} {k : Nat}, RepAs K α H ds vs → REnv K α H (ds.map some ++ List.replicate k none) (vs.map some ++ List.replicate k none)
  | [], vs, k, h => by
    cases (show vs = [] from h)
    refine ⟨by simp, fun i m hi => ?_⟩
    simp [List.getElem?_replicate] at hi
  | d :: ds, vs, k, ⟨v, r, e, h1, h2⟩ => by
    subst e
    obtain ⟨q1, q2⟩ := REnv.start (k := k) h2
    refine ⟨by simpa using q1, fun i m hi => ?_⟩
    cases i with
    | zero => simp at hi; subst hi; exact ⟨v, by simp, h1⟩
    | succ i => simpa using q2 i m (by simpa using hi)
end
section
variable {P : Program} {w : World} {K : PySem.W.Frag} {mg : Str → Option Value} {base : Heap}
theorem Fun.okM {x qual : Str} {st : Stmt} {f : Addr} {fd : FuncData} {N ps : List Str} {k n : Nat} {b : FS} (F : Fun K x qual st f fd) (S : FnScope N ps (defScope st)) (hn : N.length = ps.length + n)
    (hb : ∀ (cdv : Value) (A : Around) (outer : List Env) (s : Shared) (H : Hp) (E : XK), Room k (A.deeper (envOfC qual (defScope st) s.heap.objs.size f cdv)) →
      PSs (cxOf CX0 P w K mg base N qual (defScope st) f cdv A outer s H E).nox (defBody st) (sM (cxOf CX0 P w K mg base N qual (defScope st) f cdv A outer s H E).nox.K b)) : FnOk P w K mg base CX0 (k + 1) f fd ps (spM K (mFun ps.length n b)) := by
  refine F.ok S (fun vs H Q E q => ?_) (fun cdv A outer s H vs Q E hr q => ⟨sM K b, hb cdv A outer s H E hr, ?_⟩)
  · obtain ⟨α, h, ds, d, h', rs, hr, e, _⟩ := q
    unfold mFun at e
    split at e
    · rename_i hl
      rw [← rs.length]; exact hl
    · cases e
  · obtain ⟨α, h, ds, d, h', rs, hr, e, k⟩ := q
    unfold mFun at e
    split at e
    · rename_i hl
      obtain ⟨o, h1, e1, e⟩ := bnd_inv e
      have ek : N.length - vs.length = n := by rw [← rs.length, hl, hn]; omega
      refine ⟨α, ds.map some ++ List.replicate n none, h, o, h1, ?_, hr, e1, fun α' H' ev hr' => ?_⟩
      · unfold start
        rw [ek]
        exact REnv.start rs
      · cases o with
        | nx ρ => cases e; exact fun σ _ => k α' H' .non ev hr' rfl
        | rt d => cases e; exact fun v rv => k α' H' v ev hr' rv
        | bk ρ => cases e
        | ct ρ => cases e
    · cases e
end
end L2
set_option Elab.async false
set_option linter.all false
set_option maxRecDepth 100000
namespace L2
open PySem PySem.Spec PyProof.Rows
def seqL (h : HpM) : M → Option (List M)
  | .lst xs => some xs
  | .ref k => (match h[k]? with | some (.lst xs) => some xs | _ => none)
  | _ => none
theorem seqL_rep {K : PySem.W.Frag} {α : Pl} {h : HpM} {H : Hp} {m : M} {v : V} {xs : List M} (hr : Rl K α h H) (rm : RepA K α H m v) (e : seqL h m = some xs) : ∃ a vs, v = .ref a ∧ H a = some (.lst vs) ∧ RepAs K α H xs vs := by
  unfold seqL at e
  split at e
  · cases e
    obtain ⟨a, vs, e1, n, ha, rs⟩ := rm
    exact ⟨a, vs, e1, ha, rs⟩
  · split at e
    · rename_i hk
      cases e
      obtain ⟨a, ha, e1⟩ := rm
      obtain ⟨vs, hv, rs⟩ := hr.obj _ a _ ha hk
      exact ⟨a, vs, e1, hv, rs⟩
    · cases e
  · cases e
def seqR (h : HpM) : M → Option (List M)
  | .scr ns => some (ns.map M.int)
  | m => seqL h m
theorem seqR_rep {K : PySem.W.Frag} {α : Pl} {h : HpM} {H : Hp} {m : M} {v : V} {xs : List M} (hr : Rl K α h H) (rm : RepA K α H m v) (e : seqR h m = some xs) : ∃ a vs, v = .ref a ∧ SqL K H a vs ∧ RepAs K α H xs vs := by
  unfold seqR at e
  split at e
  · cases e
    obtain ⟨a, e1, t⟩ := rm
    exact ⟨a, _, e1, t.sq, RepAs.ints⟩
  · obtain ⟨a, vs, e1, ha, rs⟩ := seqL_rep hr rm e
    exact ⟨a, vs, e1, .of ha, rs⟩
def cutM (xs : List M) (lo hi : Option Int) : List M := (xs.drop (HT.sIx xs.length 0 lo)).take (HT.sIx xs.length xs.length hi - HT.sIx xs.length 0 lo)
theorem RepAs.cut {K : PySem.W.Frag} {α : Pl} {H : Hp} {xs : List M} {vs : List V} {lo hi : Option Int} (r : RepAs K α H xs vs) : RepAs K α H (cutM xs lo hi) (cutV vs lo hi) := by
  unfold cutM cutV
  rw [← r.length]
  exact (r.drop _).take _
theorem laidL {K : PySem.W.Frag} {α : Pl} {h : HpM} {H : Hp} {p : Addr} {xs : List M} {vs : List V} (hr : Rl K α h H) (hp : H p = none) (rs : RepAs K α H xs vs) : RepA K α (upd H p (.lst vs)) (.lst xs) (.ref p) :=
  ⟨p, vs, rfl, hr.new hp, upd_same, rs.ev (.same (same_new hp _))⟩
theorem laidT {K : PySem.W.Frag} {α : Pl} {h : HpM} {H : Hp} {p : Addr} {xs : List M} {vs : List V} (hr : Rl K α h H) (hp : H p = none) (rs : RepAs K α H xs vs) : RepA K α (upd H p (.tup vs)) (.tup xs) (.ref p) :=
  ⟨p, vs, rfl, .inl ⟨.inl upd_same, hr.new hp⟩, rs.ev (.same (same_new hp _))⟩
section
variable {X : Cx} {K : PySem.W.Frag}
def rCatK (K : PySem.W.Frag) : R2 := fun x y H Q => ∃ (a b : Addr) (xs ys : List V), x = .ref a ∧ y = .ref b ∧ SqT K H a xs ∧ SqT K H b ys ∧ xs.length + ys.length ≤ sizeLine ∧
  (xs = [] → Q (.ref b) H) ∧ (xs ≠ [] → ys = [] → Q (.ref a) H) ∧ (xs ≠ [] → ys ≠ [] → ∀ p, H p = none → Q (.ref p) (upd H p (.tup (xs ++ ys))))
theorem op_catK : OpR X (binaryOp .Add) (rCatK X.K) := by
  intro pins s σ H x y v u Q I rx ry h
  obtain ⟨a, b, xs, ys, rfl, rfl, ha, hb, hz, q0, q1, q2⟩ := h
  by_cases hx : xs = []
  · subst hx
    cases rx
    cases ry
    obtain ⟨its, r1, p1, _⟩ := I.tuple ha
    obtain ⟨its2, r2, p2, _⟩ := I.tuple hb
    cases r1
    obtain ⟨⟨cls, dd, data, sl⟩, ho, hc, n, hd⟩ := id p1
    obtain ⟨⟨cls2, dd2, data2, sl2⟩, ho2, hc2, n2, hd2⟩ := id p2
    simp only at hc hd hc2 hd2
    subst hc hd hc2 hd2
    refine concat_meets ⟨_, ho, rfl⟩ ⟨_, ho2, rfl⟩ noFill_tuple_add seq_tuple_add PySem.F.slot_tuple_add PySem.F.entry_tuple_add (PySem.F.args_tuple_add_2 _ _)
      (tuple_addW0 a b _ _ n n2 dd dd2 sl sl2 (by simp)) ⟨ho, ho2, ?_⟩
    exact ⟨.ref b, H, I, rfl, q0 rfl⟩
  · exact op_catT pins s σ H _ _ v u Q I rx ry ⟨a, b, xs, ys, rfl, rfl, ha, hb, hx, hz, fun e => q1 hx e, fun e => q2 hx e⟩
def opAdd (x y : M) (h : HpM) : Option M := match x, y with
  | .int i, .int j => some (.int (i + j))
  | .str a, .str b => if a.length + b.length ≤ 16777216 then some (.str (a ++ b)) else none
  | .tup xs, .tup ys => if xs.length + ys.length ≤ 16777216 then some (.tup (xs ++ ys)) else none
  | x, y => (seqL h x).bind fun xs => (seqL h y).bind fun ys => if xs.length + ys.length ≤ 16777216 then some (.lst (xs ++ ys)) else none
def rAddM (K : PySem.W.Frag) : R2 := fun x y H Q => rI0 (fun i j => .int (i + j)) x y H Q ∨ (∃ i j, x = .str i ∧ y = .str j ∧ i.length + j.length ≤ sizeLine ∧ Q (.str (i ++ j)) H) ∨ rCat x y H Q ∨ rCatK K x y H Q
theorem op_addM : OpR X (binaryOp .Add) (rAddM X.K) := by
  intro pins s σ H x y v u Q I rx ry h
  rcases h with h | h | h | h
  · exact op_add pins s σ H x y v u Q I rx ry h
  · exact op_add_str pins s σ H x y v u Q I rx ry h
  · exact op_cat pins s σ H x y v u Q I rx ry h
  · exact op_catK pins s σ H x y v u Q I rx ry h
theorem fm_add : OpM K (rAddM K) opAdd := by
  intro α h H x y d u v Q hr rx ry e k
  unfold opAdd at e
  split at e
  · cases e
    exact .inl ⟨_, _, rx, ry, k H _ (Same.refl _) rfl⟩
  · split at e
    · rename_i hl
      cases e
      exact .inr (.inl ⟨_, _, rx, ry, by rw [sizeLine_eq]; exact hl, k H _ (Same.refl _) rfl⟩)
    · cases e
  · split at e
    · rename_i xs ys hl
      cases e
      obtain ⟨a, vs, rfl, ta, rs⟩ := id rx
      obtain ⟨b, ws, rfl, tb, rt⟩ := id ry
      refine .inr (.inr (.inr ⟨a, b, vs, ws, rfl, rfl, ta.sq, tb.sq, by rw [← rs.length, ← rt.length, sizeLine_eq]; exact hl, fun e => ?_, fun _ e => ?_, fun _ _ p hp => ?_⟩))
      · have : xs = [] := by have := rs.length; rw [e] at this; simpa using this
        subst this
        exact k H _ (Same.refl _) ry
      · have : ys = [] := by have := rt.length; rw [e] at this; simpa using this
        subst this
        rw [List.append_nil] at k
        exact k H _ (Same.refl _) rx
      · exact k _ _ (same_new hp _) (laidT hr hp (rs.app rt))
    · cases e
  · obtain ⟨xs, e1, e⟩ := Option.bind_eq_some_iff.mp e
    obtain ⟨ys, e2, e⟩ := Option.bind_eq_some_iff.mp e
    split at e
    · rename_i hl
      cases e
      obtain ⟨a, vs, rfl, ta, rs⟩ := seqL_rep hr rx e1
      obtain ⟨b, ws, rfl, tb, rt⟩ := seqL_rep hr ry e2
      exact .inr (.inr (.inl ⟨a, b, vs, ws, rfl, rfl, ta, tb, by rw [← rs.length, ← rt.length, sizeLine_eq]; exact hl, fun p hp => k _ _ (same_new hp _) (laidL hr hp (rs.app rt))⟩))
    · cases e
def onI (f : Int → Int → Option M) (x y : M) (_ : HpM) : Option M := match x, y with | .int i, .int j => f i j | _, _ => none
def opSub : M → M → HpM → Option M := onI fun i j => some (.int (i - j))
def opMod : M → M → HpM → Option M := onI fun i j => if 0 < j then some (.int (i % j)) else none
def opDiv : M → M → HpM → Option M := onI fun i j => if 0 < j ∧ j < 1073741824 then some (.int (i / j)) else none
def opPow : M → M → HpM → Option M := onI fun i j => if 0 ≤ j ∧ j ≤ 1000000 ∧ i.natAbs < 18446744073709551616 then some (.int (i ^ j.toNat)) else none
theorem onI_inv {f : Int → Int → Option M} {x y d : M} {h : HpM} (e : onI f x y h = some d) : ∃ i j, x = .int i ∧ y = .int j ∧ f i j = some d := by
  unfold onI at e
  split at e
  · exact ⟨_, _, rfl, rfl, e⟩
  · cases e
theorem fm_sub : OpM K (rI0 fun i j => .int (i - j)) opSub := by
  intro α h H x y d u v Q hr rx ry e k
  obtain ⟨i, j, rfl, rfl, e'⟩ := onI_inv e
  clear e
  have e := e'
  clear e'
  cases e
  exact ⟨i, j, rx, ry, k H _ (Same.refl _) rfl⟩
theorem fm_mod : OpM K (rI (fun _ j => 0 < j) fun i j => .int (i % j)) opMod := by
  intro α h H x y d u v Q hr rx ry e k
  obtain ⟨i, j, rfl, rfl, e'⟩ := onI_inv e
  clear e
  have e := e'
  clear e'
  split at e
  · rename_i hj
    cases e
    exact ⟨i, j, rx, ry, hj, k H _ (Same.refl _) rfl⟩
  · cases e
theorem fm_div : OpM K (rI CDiv fun i j => .int (i / j)) opDiv := by
  intro α h H x y d u v Q hr rx ry e k
  obtain ⟨i, j, rfl, rfl, e'⟩ := onI_inv e
  clear e
  have e := e'
  clear e'
  split at e
  · rename_i hj
    cases e
    exact ⟨i, j, rx, ry, hj, k H _ (Same.refl _) rfl⟩
  · cases e
theorem fm_pow : OpM K (rI CPow fun i j => .int (i ^ j.toNat)) opPow := by
  intro α h H x y d u v Q hr rx ry e k
  obtain ⟨i, j, rfl, rfl, e'⟩ := onI_inv e
  clear e
  have e := e'
  clear e'
  split at e
  · rename_i hj
    cases e
    exact ⟨i, j, rx, ry, ⟨hj.1, hj.2.1, by have := hj.2.2; omega⟩, k H _ (Same.refl _) rfl⟩
  · cases e
def reps (n : Nat) (xs : List M) : List M := (List.replicate n xs).flatten
def opMul (x y : M) (h : HpM) : Option M := match x, y with
  | .int i, .int j => if (-18446744073709551616 < i ∧ i < 18446744073709551616) ∨ (-18446744073709551616 < j ∧ j < 18446744073709551616) then some (.int (i * j)) else none
  | .str z, .int j => if z.length ≤ 16 ∧ 0 ≤ j ∧ j ≤ 1000 then some (.str (Txt.mul z j)) else none
  | x, .int j => (seqL h x).bind fun xs => if -9223372036854775808 ≤ j ∧ j < 9223372036854775808 ∧ xs.length * j.toNat ≤ 16777216 then some (.lst (reps j.toNat xs)) else none
  | _, _ => none
def rMulM : R2 := fun x y H Q => rI CMul (fun i j => .int (i * j)) x y H Q ∨ (∃ i j, x = .str i ∧ y = .int j ∧ (i.length ≤ 16 ∧ 0 ≤ j ∧ j ≤ 1000) ∧ Q (.str (Txt.mul i j)) H) ∨ rRep x y H Q
theorem op_mulM : OpR X (binaryOp .Mult) rMulM := by
  intro pins s σ H x y v u Q I rx ry h
  rcases h with h | h | h
  · exact op_mul pins s σ H x y v u Q I rx ry h
  · exact op_mul_str pins s σ H x y v u Q I rx ry h
  · exact op_rep pins s σ H x y v u Q I rx ry h
theorem RepAs.reps {α : Pl} {H : Hp} {xs : List M} {vs : List V} (r : RepAs K α H xs vs) : ∀ n : Nat, RepAs K α H (L2.reps n xs) (List.replicate n vs).flatten
  | 0 => rfl
  | n + 1 => by
    unfold L2.reps
    rw [List.replicate_succ, List.replicate_succ, List.flatten_cons, List.flatten_cons]
    exact r.app (RepAs.reps r n)
theorem fm_mul : OpM K rMulM opMul := by
  intro α h H x y d u v Q hr rx ry e k
  unfold opMul at e
  split at e
  · split at e
    · rename_i hl
      cases e
      refine .inl ⟨_, _, rx, ry, ?_, k H _ (Same.refl _) rfl⟩
      unfold CMul
      omega
    · cases e
  · split at e
    · rename_i hl
      cases e
      exact .inr (.inl ⟨_, _, rx, ry, hl, k H _ (Same.refl _) rfl⟩)
    · cases e
  · obtain ⟨xs, e1, e⟩ := Option.bind_eq_some_iff.mp e
    split at e
    · rename_i hl
      cases e
      obtain ⟨a, vs, rfl, ta, rs⟩ := seqL_rep hr rx e1
      exact .inr (.inr ⟨a, _, vs, rfl, ry, ta, by omega, by omega, by rw [← rs.length, sizeLine_eq]; omega, fun p hp => k _ _ (same_new hp _) (laidL hr hp (rs.reps _))⟩)
    · cases e
  · cases e
def onO (f : Int → Int → Bool) (g : List Nat → List Nat → Bool) (x y : M) (_ : HpM) : Option M := match x, y with
  | .int i, .int j => some (.bl (f i j))
  | .str a, .str b => some (.bl (g a.cps.toList b.cps.toList))
  | _, _ => none
def opLt := onO (fun i j => decide (i < j)) fun a b => decide (a < b)
def opGt := onO (fun i j => decide (j < i)) fun a b => decide (b < a)
theorem onO_inv {f : Int → Int → Bool} {g : List Nat → List Nat → Bool} {x y d : M} {h : HpM} (e : onO f g x y h = some d) : (∃ i j, x = .int i ∧ y = .int j ∧ d = .bl (f i j)) ∨ ∃ a b, x = .str a ∧ y = .str b ∧ d = .bl (g a.cps.toList b.cps.toList) := by
  unfold onO at e
  split at e
  · cases e; exact .inl ⟨_, _, rfl, rfl, rfl⟩
  · cases e; exact .inr ⟨_, _, rfl, rfl, rfl⟩
  · cases e
theorem fm_lt : OpM K rLtA opLt := by
  intro α h H x y d u v Q hr rx ry e k
  rcases onO_inv e with ⟨i, j, rfl, rfl, rfl⟩ | ⟨i, j, rfl, rfl, rfl⟩
  · exact .inl ⟨i, j, rx, ry, k H _ (Same.refl _) rfl⟩
  · exact .inr ⟨i, j, rx, ry, k H _ (Same.refl _) rfl⟩
theorem fm_gt : OpM K rGtA opGt := by
  intro α h H x y d u v Q hr rx ry e k
  rcases onO_inv e with ⟨i, j, rfl, rfl, rfl⟩ | ⟨i, j, rfl, rfl, rfl⟩
  · exact .inl ⟨i, j, rx, ry, k H _ (Same.refl _) rfl⟩
  · exact .inr ⟨i, j, rx, ry, k H _ (Same.refl _) rfl⟩
def ixM (x y : M) (h : HpM) : Option M := match y with
  | .int i => (match x with
    | .tup xs => atI xs i
    | .str z => if z.length ≤ 16777216 then (atI z.cps.toList i).map fun c => .str ⟨#[c]⟩ else none
    | x => (seqR h x).bind fun xs => atI xs i)
  | _ => none
theorem fm_ix : OpM K (rIx K) ixM := by
  intro α h H x y d u v Q hr rx ry e k
  unfold ixM at e
  split at e
  · rename_i i
    split at e
    · obtain ⟨a, vs, rfl, t, rs⟩ := rx
      obtain ⟨w, hw, rw'⟩ := rs.at e
      exact .inr (.inl ⟨a, vs, i, w, rfl, ry, t.sq, hw, k H _ (Same.refl _) rw'⟩)
    · split at e
      · rename_i hl
        obtain ⟨c, e1, e2⟩ := Option.map_eq_some_iff.mp e
        subst e2
        exact .inr (.inr ⟨_, i, c, rx, ry, by rw [sizeLine_eq]; exact hl, e1, k H _ (Same.refl _) rfl⟩)
      · cases e
    · obtain ⟨xs, e1, e⟩ := Option.bind_eq_some_iff.mp e
      obtain ⟨a, vs, rfl, t, rs⟩ := seqR_rep hr rx e1
      obtain ⟨w, hw, rw'⟩ := rs.at e
      exact .inl ⟨a, vs, i, w, rfl, ry, t, hw, k H _ (Same.refl _) rw'⟩
  · cases e
def rSlK (K : PySem.W.Frag) : V → Option Int → Option Int → Hp → VK → Prop := fun x lo hi H Q => ∃ a xs, x = .ref a ∧ SqT K H a xs ∧ (cutV xs lo hi = xs → Q (.ref a) H) ∧ ∀ p, H p = none → Q (.ref p) (upd H p (.tup (cutV xs lo hi)))
theorem sl_tupK : SlR X (rSlK X.K) := by
  intro pins s σ H x v vl vu lo hi sl Q I rx hs pl pu h
  obtain ⟨a, xs, rfl, hx, q1, q2⟩ := h
  by_cases hw : HT.sIx xs.length 0 lo = 0 ∧ HT.sIx xs.length xs.length hi = xs.length
  · cases rx
    obtain ⟨its, r, ht, _⟩ := I.tuple hx
    have hlen : its.toArray.size = xs.length := by rw [List.size_toArray]; exact r.length.symm
    refine ⟨"tuple", _, PyProof.Rows.slot_tuple_getitem.lookup, ht.typeIs, ?_⟩
    refine whole_tuple ht hs pl pu (by rw [hlen]; exact hw) ⟨.ref a, H, I, rfl, q1 ?_⟩
    unfold cutV; rw [hw.1, hw.2]; simp
  · exact sl_tup pins s σ H _ v vl vu lo hi sl Q I rx hs pl pu ⟨a, xs, rfl, hx, hw, q2⟩
def slM (x : M) (lo hi : Option Int) (h : HpM) : Option M := match x with
  | .tup xs => some (.tup (cutM xs lo hi))
  | .str z => if z.length ≤ 16777216 then some (.str (Txt.slice z lo hi)) else none
  | x => (seqR h x).map fun xs => .lst (cutM xs lo hi)
def rSlM (K : PySem.W.Frag) : V → Option Int → Option Int → Hp → VK → Prop := fun x lo hi H Q => rSlL K x lo hi H Q ∨ rSlK K x lo hi H Q ∨ rSlS x lo hi H Q
theorem sl_M : SlR X (rSlM X.K) := sl_list.or (sl_tupK.or sl_str)
theorem fm_sl : SlM K (rSlM K) slM := by
  intro α h H x d lo hi u Q hr rx e k
  unfold slM at e
  split at e
  · cases e
    obtain ⟨a, vs, rfl, t, rs⟩ := id rx
    refine .inr (.inl ⟨a, vs, rfl, t.sq, fun e => ?_, fun p hp => k _ _ (same_new hp _) (laidT hr hp rs.cut)⟩)
    have rc := rs.cut (lo := lo) (hi := hi)
    rw [e] at rc
    exact k H _ (Same.refl _) ⟨a, vs, rfl, t, rc⟩
  · split at e
    · rename_i hl
      cases e
      exact .inr (.inr ⟨_, rx, by rw [sizeLine_eq]; exact hl, k H _ (Same.refl _) rfl⟩)
    · cases e
  · obtain ⟨xs, e1, e2⟩ := Option.map_eq_some_iff.mp e
    subst e2
    obtain ⟨a, vs, rfl, t, rs⟩ := seqR_rep hr rx e1
    exact .inl ⟨a, vs, rfl, t, fun p hp => k _ _ (same_new hp _) (laidL hr hp rs.cut)⟩
end
end L2
set_option Elab.async false
set_option linter.all false
set_option maxRecDepth 100000
namespace L2
open PySem PySem.Spec PyProof.Rows
mutual
def RepK (K : PySem.W.Frag) (H : Hp) : D → V → Prop
  | .non, v => v = .non
  | .bl b, v => v = .bl b
  | .int i, v => v = .int i
  | .str x, v => v = .str x
  | .tup ds, v => ∃ a xs, v = .ref a ∧ SqT K H a xs ∧ RepKs K H ds xs
  | .lst ds, v => ∃ a xs, v = .ref a ∧ SqL K H a xs ∧ RepKs K H ds xs
def RepKs (K : PySem.W.Frag) (H : Hp) : List D → List V → Prop
  | [], xs => xs = []
  | d :: ds, xs => ∃ x r, xs = x :: r ∧ RepK K H d x ∧ RepKs K H ds r
end
section
open PySem.SeqAt
variable {X : Cx} {pins : List (Addr × Obj)} {σ : St} {H : Hp} {s : Shared}
theorem Inv.tupK (I : Inv X pins σ H s) {a : Addr} {xs : List V} (h : SqT X.K H a xs) : ∃ its : List Value, Vals xs its ∧ s.heap.IsTuple a its.toArray := by
  obtain ⟨its, r, t, _⟩ := I.tuple h
  exact ⟨its, r, t⟩
theorem Inv.lstK (I : Inv X pins σ H s) {a : Addr} {xs : List V} (h : SqL X.K H a xs) : ∃ its : List Value, Vals xs its ∧ s.heap.IsList a its.toArray := by
  obtain ⟨its, r, t, _⟩ := I.list h
  exact ⟨its, r, t.isList⟩
theorem Inv.apartK (I : Inv X pins σ H s) {a : Addr} {xs ys : List V} (h : SqT X.K H a xs) (h' : SqL X.K H a ys) : False := by
  obtain ⟨its, r, o, e, c, _⟩ := I.tupK h
  obtain ⟨its', r', o', e', c', _⟩ := I.lstK h'
  rw [e] at e'
  cases e'
  rw [c] at c'
  exact absurd c' (by decide)
mutual
theorem RepK.inj (I : Inv X pins σ H s) : ∀ {d d' : D} {v : V}, RepK X.K H d v → RepK X.K H d' v → d = d'
  | .non, d', v, h, h' => by
    cases (show v = .non from h)
    cases d' <;> simp_all [RepK]
  | .bl b, d', v, h, h' => by
    cases (show v = .bl b from h)
    cases d' <;> simp_all [RepK]
  | .int b, d', v, h, h' => by
    cases (show v = .int b from h)
    cases d' <;> simp_all [RepK]
  | .str b, d', v, h, h' => by
    cases (show v = .str b from h)
    cases d' <;> simp_all [RepK]
  | .tup ds, d', v, h, h' => by
    obtain ⟨a, xs, rfl, ha, hs⟩ := h
    cases d' with
    | tup ds' =>
      obtain ⟨a', xs', e, ha', hs'⟩ := h'
      cases e
      cases I.tuple_inj ha ha'
      rw [RepKs.inj I hs hs']
    | lst ds' =>
      obtain ⟨a', xs', e, ha', hs'⟩ := h'
      cases e
      exact (I.apartK ha ha').elim
    | _ => cases (show V.ref a = _ from h')
  | .lst ds, d', v, h, h' => by
    obtain ⟨a, xs, rfl, ha, hs⟩ := h
    cases d' with
    | lst ds' =>
      obtain ⟨a', xs', e, ha', hs'⟩ := h'
      cases e
      cases I.list_inj ha ha'
      rw [RepKs.inj I hs hs']
    | tup ds' =>
      obtain ⟨a', xs', e, ha', hs'⟩ := h'
      cases e
      exact (I.apartK ha' ha).elim
    | _ => cases (show V.ref a = _ from h')
theorem RepKs.inj (I : Inv X pins σ H s) : ∀ {ds ds' : List D} {xs : List V}, RepKs X.K H ds xs → RepKs X.K H ds' xs → ds = ds'
  | [], ds', xs, h, h' => by
    cases (show xs = [] from h)
    cases ds' with
    | nil => rfl
    | cons d r => obtain ⟨x, r', e, _⟩ := h'; cases e
  | d :: ds, ds', xs, h, h' => by
    obtain ⟨x, r, rfl, h1, h2⟩ := h
    cases ds' with
    | nil => cases (show x :: r = [] from h')
    | cons d2 r2 =>
      obtain ⟨x', r', e, h1', h2'⟩ := h'
      cases e
      rw [RepK.inj I h1 h1', RepKs.inj I h2 h2']
end
theorem RepKs.length {K : PySem.W.Frag} {H : Hp} : ∀ {ds : List D} {xs : List V}, RepKs K H ds xs → ds.length = xs.length
  | [], xs, h => by cases (show xs = [] from h); rfl
  | d :: ds, xs, h => by
    obtain ⟨x, r, rfl, _, h2⟩ := h
    simp [RepKs.length h2]
theorem RepKs.get' {K : PySem.W.Frag} {H : Hp} : ∀ {ds : List D} {xs : List V} {j : Nat} {d : D}, RepKs K H ds xs → ds[j]? = some d → ∃ x, xs[j]? = some x ∧ RepK K H d x
  | [], xs, j, x, h, e => by simp at e
  | d :: ds, xs, 0, x, h, e => by
    obtain ⟨y, r, rfl, h1, h2⟩ := h
    simp at e; subst e
    exact ⟨y, rfl, h1⟩
  | d :: ds, xs, j + 1, x, h, e => by
    obtain ⟨y, r, rfl, h1, h2⟩ := h
    obtain ⟨d', e', h'⟩ := RepKs.get' (j := j) h2 (by simpa using e)
    exact ⟨d', by simpa using e', h'⟩
theorem seq_itemsK {A : Around} {xs ys : List V} {its its2 : List Value} {ds ds' : List D} (rv : Vals xs its) (rv2 : Vals ys its2) (hx : RepKs X.K H ds xs) (hy : RepKs X.K H ds' ys)
    (ih : ∀ (j : Nat) d d' x y u v, ds[j]? = some d → ds'[j]? = some d' → RepK X.K H d x → RepK X.K H d' y → RelV x u → RelV y v → EqAt A s u v (deq d d')) :
    ∀ j (h1 : j < its.toArray.size) (h2 : j < its2.toArray.size), EqAt A s its.toArray[j] its2.toArray[j] (deq (ds.getD j .non) (ds'.getD j .non)) := by
  intro j h1 h2
  have l1 := rv.length
  have l2 := rv2.length
  have k1 := hx.length
  have k2 := hy.length
  have h1' : j < its.length := by simpa using h1
  have h2' : j < its2.length := by simpa using h2
  have j1 : j < ds.length := by omega
  have j2 : j < ds'.length := by omega
  obtain ⟨x, ex, rx⟩ := hx.get' (j := j) (d := ds[j]) (by simp [j1])
  obtain ⟨y, ey, ry⟩ := hy.get' (j := j) (d := ds'[j]) (by simp [j2])
  obtain ⟨u, eu, ru⟩ := rv.get ex
  obtain ⟨v, ev, rv'⟩ := rv2.get ey
  have e1 : its.toArray[j] = u := by
    have : its[j]? = some its[j] := by simp [h1']
    rw [this] at eu
    simpa using Option.some.inj eu
  have e2 : its2.toArray[j] = v := by
    have : its2[j]? = some its2[j] := by simp [h2']
    rw [this] at ev
    simpa using Option.some.inj ev
  have e3 : ds.getD j .non = ds[j] := by simp [List.getD_eq_getElem?_getD, j1]
  have e4 : ds'.getD j .non = ds'[j] := by simp [List.getD_eq_getElem?_getD, j2]
  rw [e1, e2, e3, e4]
  exact ih j _ _ x y u v (by simp [j1]) (by simp [j2]) rx ry ru rv'
theorem rc_and_eqK (I : Inv X pins σ H s) : ∀ (n : Nat) (A : Around) (d d' : D) (x y : V) (u v : Value), d.deep ≤ n → A.units + n < cLine → RepK X.K H d x → RepK X.K H d' y → RelV x u → RelV y v →
    RcAt A s u v (deq d d') ∧ EqAt A s u v (deq d d') := by
  intro n
  induction n with
  | zero =>
    intro A d d' x y u v hd hu hx hy ru rv
    have hu' : A.units < cLine := by omega
    cases d with
    | tup ds => simp [D.deep] at hd
    | lst ds => simp [D.deep] at hd
    | non =>
      cases (show x = .non from hx); cases ru
      cases d' with
      | non => cases (show y = .non from hy); cases rv; simp only [deq]; exact ⟨RcAt.none_none, EqAt.same _⟩
      | bl b => cases (show y = .bl b from hy); cases rv; simp only [deq]; exact ⟨RcAt.none_bool b, EqAt.none_bool b⟩
      | int i => cases (show y = .int i from hy); obtain ⟨t, rfl⟩ := rv; simp only [deq]; exact ⟨RcAt.none_int i t, EqAt.none_int i t⟩
      | str i => cases (show y = .str i from hy); obtain ⟨t, rfl⟩ := rv; simp only [deq]; exact ⟨RcAt.none_str i t, EqAt.none_str i t⟩
      | tup ds => obtain ⟨a, xs, rfl, ha, _⟩ := hy; cases rv; obtain ⟨its, r, ht⟩ := I.tupK ha; simp only [deq]; exact ⟨RcAt.none_tuple ht hu', EqAt.none_tuple ht hu'⟩
      | lst ds => obtain ⟨a, xs, rfl, ha, _⟩ := hy; cases rv; obtain ⟨its, r, ht⟩ := I.lstK ha; simp only [deq]; exact ⟨RcAt.none_list ht hu', EqAt.none_list ht hu'⟩
    | bl a =>
      cases (show x = .bl a from hx); cases ru
      cases d' with
      | non => cases (show y = .non from hy); cases rv; simp only [deq]; exact ⟨RcAt.bool_none a, EqAt.bool_none a⟩
      | bl b => cases (show y = .bl b from hy); cases rv; simp only [deq]; exact ⟨RcAt.bool_bool a b, EqAt.bool_bool a b⟩
      | int i => cases (show y = .int i from hy); obtain ⟨t, rfl⟩ := rv; simp only [deq]; exact ⟨RcAt.bool_int a i t, EqAt.bool_int a i t⟩
      | str i => cases (show y = .str i from hy); obtain ⟨t, rfl⟩ := rv; simp only [deq]; exact ⟨RcAt.bool_str a i t, EqAt.bool_str a i t⟩
      | tup ds => obtain ⟨a', xs, rfl, ha, _⟩ := hy; cases rv; obtain ⟨its, r, ht⟩ := I.tupK ha; simp only [deq]; exact ⟨RcAt.bool_tuple a ht hu', EqAt.bool_tuple a ht hu'⟩
      | lst ds => obtain ⟨a', xs, rfl, ha, _⟩ := hy; cases rv; obtain ⟨its, r, ht⟩ := I.lstK ha; simp only [deq]; exact ⟨RcAt.bool_list a ht hu', EqAt.bool_list a ht hu'⟩
    | int a =>
      cases (show x = .int a from hx); obtain ⟨ta, rfl⟩ := ru
      cases d' with
      | non => cases (show y = .non from hy); cases rv; simp only [deq]; exact ⟨RcAt.int_none a ta, EqAt.int_none a ta⟩
      | bl b => cases (show y = .bl b from hy); cases rv; simp only [deq]; exact ⟨RcAt.int_bool a ta b, EqAt.int_bool a ta b⟩
      | int i => cases (show y = .int i from hy); obtain ⟨t, rfl⟩ := rv; simp only [deq]; exact ⟨RcAt.int_int a ta i t, EqAt.int_int a ta i t⟩
      | str i => cases (show y = .str i from hy); obtain ⟨t, rfl⟩ := rv; simp only [deq]; exact ⟨RcAt.int_str a ta i t, EqAt.int_str a ta i t⟩
      | tup ds => obtain ⟨a', xs, rfl, ha, _⟩ := hy; cases rv; obtain ⟨its, r, ht⟩ := I.tupK ha; simp only [deq]; exact ⟨RcAt.int_tuple a ta ht hu', EqAt.int_tuple a ta ht hu'⟩
      | lst ds => obtain ⟨a', xs, rfl, ha, _⟩ := hy; cases rv; obtain ⟨its, r, ht⟩ := I.lstK ha; simp only [deq]; exact ⟨RcAt.int_list a ta ht hu', EqAt.int_list a ta ht hu'⟩
    | str a =>
      cases (show x = .str a from hx); obtain ⟨ta, rfl⟩ := ru
      cases d' with
      | non => cases (show y = .non from hy); cases rv; simp only [deq]; exact ⟨RcAt.str_none a ta, EqAt.str_none a ta⟩
      | bl b => cases (show y = .bl b from hy); cases rv; simp only [deq]; exact ⟨RcAt.str_bool a ta b, EqAt.str_bool a ta b⟩
      | int i => cases (show y = .int i from hy); obtain ⟨t, rfl⟩ := rv; simp only [deq]; exact ⟨RcAt.str_int a ta i t, EqAt.str_int a ta i t⟩
      | str i => cases (show y = .str i from hy); obtain ⟨t, rfl⟩ := rv; simp only [deq]; exact ⟨RcAt.str_str a ta i t, EqAt.str_str a ta i t⟩
      | tup ds => obtain ⟨a', xs, rfl, ha, _⟩ := hy; cases rv; obtain ⟨its, r, ht⟩ := I.tupK ha; simp only [deq]; exact ⟨RcAt.str_tuple a ta ht hu', EqAt.str_tuple a ta ht hu'⟩
      | lst ds => obtain ⟨a', xs, rfl, ha, _⟩ := hy; cases rv; obtain ⟨its, r, ht⟩ := I.lstK ha; simp only [deq]; exact ⟨RcAt.str_list a ta ht hu', EqAt.str_list a ta ht hu'⟩
  | succ n ih =>
    intro A d d' x y u v hd hu hx hy ru rv
    have hu' : A.units < cLine := by omega
    have hin : A.in1.units + n < cLine := by show A.units + 1 + n < cLine; omega
    by_cases h0 : d.deep ≤ n
    · exact ih A d d' x y u v h0 (by omega) hx hy ru rv
    cases d with
    | tup ds =>
      have hds : D.deeps ds ≤ n := by simp [D.deep] at hd; exact hd
      obtain ⟨a, xs, rfl, ha, hs⟩ := id hx
      cases ru
      obtain ⟨its, r, ht⟩ := I.tupK ha
      cases d' with
      | non => cases (show y = .non from hy); cases rv; simp only [deq]; exact ⟨RcAt.tuple_none ht hu', EqAt.tuple_none ht hu'⟩
      | bl b => cases (show y = .bl b from hy); cases rv; simp only [deq]; exact ⟨RcAt.tuple_bool b ht hu', EqAt.tuple_bool b ht hu'⟩
      | int i => cases (show y = .int i from hy); obtain ⟨t, rfl⟩ := rv; simp only [deq]; exact ⟨RcAt.tuple_int i t ht hu', EqAt.tuple_int i t ht hu'⟩
      | str i => cases (show y = .str i from hy); obtain ⟨t, rfl⟩ := rv; simp only [deq]; exact ⟨RcAt.tuple_str i t ht hu', EqAt.tuple_str i t ht hu'⟩
      | lst ds' => obtain ⟨a', xs', rfl, ha', _⟩ := hy; cases rv; obtain ⟨its', r', ht'⟩ := I.lstK ha'; simp only [deq]; exact ⟨RcAt.tuple_list ht ht' hu', EqAt.tuple_list ht ht' hu'⟩
      | tup ds' =>
        obtain ⟨a', xs', rfl, ha', hs'⟩ := id hy
        cases rv
        obtain ⟨its', r', ht'⟩ := I.tupK ha'
        have rc : RcAt A s (.ref a) (.ref a') (deq (.tup ds) (.tup ds')) := by
          have z := RcAt.tuples (A := A) (s := s) (e := fun j => deq (ds.getD j .non) (ds'.getD j .non)) ht ht' hu' (seq_itemsK r r' hs hs' fun j e e' x y u v h1 h2 h3 h4 h5 h6 => (ih A.in1 e e' x y u v (Nat.le_trans (deep_mem h1) hds) hin h3 h4 h5 h6).2)
          have e1 : its.toArray.size = ds.length := by rw [List.size_toArray, ← r.length, hs.length]
          have e2 : its'.toArray.size = ds'.length := by rw [List.size_toArray, ← r'.length, hs'.length]
          rw [e1, e2, deqs_range] at z
          simp only [deq]
          exact z
        refine ⟨rc, ?_⟩
        by_cases hne : a = a'
        · subst hne
          have : D.tup ds = D.tup ds' := RepK.inj I hx hy
          rw [← this, deq_refl]
          exact EqAt.same _
        · exact EqAt.of_refs hne rc
    | lst ds =>
      have hds : D.deeps ds ≤ n := by simp [D.deep] at hd; exact hd
      obtain ⟨a, xs, rfl, ha, hs⟩ := id hx
      cases ru
      obtain ⟨its, r, ht⟩ := I.lstK ha
      cases d' with
      | non => cases (show y = .non from hy); cases rv; simp only [deq]; exact ⟨RcAt.list_none ht hu', EqAt.list_none ht hu'⟩
      | bl b => cases (show y = .bl b from hy); cases rv; simp only [deq]; exact ⟨RcAt.list_bool b ht hu', EqAt.list_bool b ht hu'⟩
      | int i => cases (show y = .int i from hy); obtain ⟨t, rfl⟩ := rv; simp only [deq]; exact ⟨RcAt.list_int i t ht hu', EqAt.list_int i t ht hu'⟩
      | str i => cases (show y = .str i from hy); obtain ⟨t, rfl⟩ := rv; simp only [deq]; exact ⟨RcAt.list_str i t ht hu', EqAt.list_str i t ht hu'⟩
      | tup ds' => obtain ⟨a', xs', rfl, ha', _⟩ := hy; cases rv; obtain ⟨its', r', ht'⟩ := I.tupK ha'; simp only [deq]; exact ⟨RcAt.list_tuple ht ht' hu', EqAt.list_tuple ht ht' hu'⟩
      | lst ds' =>
        obtain ⟨a', xs', rfl, ha', hs'⟩ := id hy
        cases rv
        obtain ⟨its', r', ht'⟩ := I.lstK ha'
        have e1 : its.toArray.size = ds.length := by rw [List.size_toArray, ← r.length, hs.length]
        have e2 : its'.toArray.size = ds'.length := by rw [List.size_toArray, ← r'.length, hs'.length]
        have rc : RcAt A s (.ref a) (.ref a') (deq (.lst ds) (.lst ds')) := by
          simp only [deq]
          by_cases hl : ds.length = ds'.length
          · have z := RcAt.lists (A := A) (s := s) (e := fun j => deq (ds.getD j .non) (ds'.getD j .non)) ht ht' (by rw [e1, e2]; exact hl) hu' (seq_itemsK r r' hs hs' fun j e e' x y u v h1 h2 h3 h4 h5 h6 => (ih A.in1 e e' x y u v (Nat.le_trans (deep_mem h1) hds) hin h3 h4 h5 h6).2)
            have q := deqs_range (ds := ds) (ds' := ds')
            rw [← hl, Nat.min_self, beq_self_eq_true, Bool.and_true] at q
            rw [e1, q] at z
            exact z
          · have z := RcAt.lists_lengths (A := A) (s := s) ht ht' (by rw [e1, e2]; simpa using hl) hu'
            have q := deqs_range (ds := ds) (ds' := ds')
            rw [show (ds.length == ds'.length) = false from beq_eq_false_iff_ne.mpr hl, Bool.and_false] at q
            rw [← q]
            exact z
        refine ⟨rc, ?_⟩
        by_cases hne : a = a'
        · subst hne
          have : D.lst ds = D.lst ds' := RepK.inj I hx hy
          rw [← this, deq_refl]
          exact EqAt.same _
        · exact EqAt.of_refs hne rc
    | _ => exact absurd (by simp [D.deep]) h0

def rEqK (K : PySem.W.Frag) : R2 := fun x y H Q => ∃ d d', RepK K H d x ∧ RepK K H d' y ∧ d.deep ≤ 150 ∧ Q (.bl (deq d d')) H
theorem op_eqK (hu : X.A.units + 150 < cLine) : OpR X (compareOp .Eq) (rEqK X.K) := by
  intro pins s σ H x y v u Q I rx ry h
  obtain ⟨d, d', h1, h2, h3, q⟩ := h
  exact (rc_and_eqK I 150 X.A d d' x y v u h3 hu h1 h2 rx ry).1 X.prog X.w X.xe _ ⟨.bl _, H, I, rfl, q⟩
theorem rc_neK (I : Inv X pins σ H s) (A : Around) (d d' : D) (x y : V) (u v : Value) (hd : d.deep ≤ 150) (hu : A.units + 151 < cLine) (hx : RepK X.K H d x) (hy : RepK X.K H d' y) (ru : RelV x u) (rv : RelV y v) : RcNeAt A s u v (!deq d d') := by
  have hu' : A.units < cLine := by omega
  have hin : A.in1.units + 150 < cLine := by show A.units + 1 + 150 < cLine; omega
  cases d with
  | non =>
    cases (show x = .non from hx); cases ru
    cases d' with
    | non => cases (show y = .non from hy); cases rv; simp only [deq]; exact RcNeAt.none_none
    | bl b2 => cases (show y = .bl b2 from hy); cases rv; simp only [deq]; exact RcNeAt.none_bool b2
    | int b2 => cases (show y = .int b2 from hy); obtain ⟨t2, rfl⟩ := rv; simp only [deq]; exact RcNeAt.none_int b2 t2
    | str b2 => cases (show y = .str b2 from hy); obtain ⟨t2, rfl⟩ := rv; simp only [deq]; exact RcNeAt.none_str b2 t2
    | tup ds2 => obtain ⟨a2, xs2, rfl, ha2, hs2⟩ := id hy; cases rv; obtain ⟨its2, r2, ht2⟩ := I.tupK ha2; simp only [deq]; exact RcNeAt.none_tuple ht2 hu'
    | lst ds2 => obtain ⟨a2, xs2, rfl, ha2, hs2⟩ := id hy; cases rv; obtain ⟨its2, r2, ht2⟩ := I.lstK ha2; simp only [deq]; exact RcNeAt.none_list ht2 hu'
  | bl b1 =>
    cases (show x = .bl b1 from hx); cases ru
    cases d' with
    | non => cases (show y = .non from hy); cases rv; simp only [deq]; exact RcNeAt.bool_none b1
    | bl b2 => cases (show y = .bl b2 from hy); cases rv; simp only [deq]; exact RcNeAt.bool_bool b1 b2
    | int b2 => cases (show y = .int b2 from hy); obtain ⟨t2, rfl⟩ := rv; simp only [deq]; exact RcNeAt.bool_int b1 b2 t2
    | str b2 => cases (show y = .str b2 from hy); obtain ⟨t2, rfl⟩ := rv; simp only [deq]; exact RcNeAt.bool_str b1 b2 t2
    | tup ds2 => obtain ⟨a2, xs2, rfl, ha2, hs2⟩ := id hy; cases rv; obtain ⟨its2, r2, ht2⟩ := I.tupK ha2; simp only [deq]; exact RcNeAt.bool_tuple b1 ht2 hu'
    | lst ds2 => obtain ⟨a2, xs2, rfl, ha2, hs2⟩ := id hy; cases rv; obtain ⟨its2, r2, ht2⟩ := I.lstK ha2; simp only [deq]; exact RcNeAt.bool_list b1 ht2 hu'
  | int b1 =>
    cases (show x = .int b1 from hx); obtain ⟨t1, rfl⟩ := ru
    cases d' with
    | non => cases (show y = .non from hy); cases rv; simp only [deq]; exact RcNeAt.int_none b1 t1
    | bl b2 => cases (show y = .bl b2 from hy); cases rv; simp only [deq]; exact RcNeAt.int_bool b1 t1 b2
    | int b2 => cases (show y = .int b2 from hy); obtain ⟨t2, rfl⟩ := rv; simp only [deq]; exact RcNeAt.int_int b1 t1 b2 t2
    | str b2 => cases (show y = .str b2 from hy); obtain ⟨t2, rfl⟩ := rv; simp only [deq]; exact RcNeAt.int_str b1 t1 b2 t2
    | tup ds2 => obtain ⟨a2, xs2, rfl, ha2, hs2⟩ := id hy; cases rv; obtain ⟨its2, r2, ht2⟩ := I.tupK ha2; simp only [deq]; exact RcNeAt.int_tuple b1 t1 ht2 hu'
    | lst ds2 => obtain ⟨a2, xs2, rfl, ha2, hs2⟩ := id hy; cases rv; obtain ⟨its2, r2, ht2⟩ := I.lstK ha2; simp only [deq]; exact RcNeAt.int_list b1 t1 ht2 hu'
  | str b1 =>
    cases (show x = .str b1 from hx); obtain ⟨t1, rfl⟩ := ru
    cases d' with
    | non => cases (show y = .non from hy); cases rv; simp only [deq]; exact RcNeAt.str_none b1 t1
    | bl b2 => cases (show y = .bl b2 from hy); cases rv; simp only [deq]; exact RcNeAt.str_bool b1 t1 b2
    | int b2 => cases (show y = .int b2 from hy); obtain ⟨t2, rfl⟩ := rv; simp only [deq]; exact RcNeAt.str_int b1 t1 b2 t2
    | str b2 => cases (show y = .str b2 from hy); obtain ⟨t2, rfl⟩ := rv; simp only [deq]; exact RcNeAt.str_str b1 t1 b2 t2
    | tup ds2 => obtain ⟨a2, xs2, rfl, ha2, hs2⟩ := id hy; cases rv; obtain ⟨its2, r2, ht2⟩ := I.tupK ha2; simp only [deq]; exact RcNeAt.str_tuple b1 t1 ht2 hu'
    | lst ds2 => obtain ⟨a2, xs2, rfl, ha2, hs2⟩ := id hy; cases rv; obtain ⟨its2, r2, ht2⟩ := I.lstK ha2; simp only [deq]; exact RcNeAt.str_list b1 t1 ht2 hu'
  | tup ds1 =>
    obtain ⟨a1, xs1, rfl, ha1, hs1⟩ := id hx; cases ru; obtain ⟨its1, r1, ht1⟩ := I.tupK ha1
    cases d' with
    | non => cases (show y = .non from hy); cases rv; simp only [deq]; exact RcNeAt.tuple_none ht1 hu'
    | bl b2 => cases (show y = .bl b2 from hy); cases rv; simp only [deq]; exact RcNeAt.tuple_bool b2 ht1 hu'
    | int b2 => cases (show y = .int b2 from hy); obtain ⟨t2, rfl⟩ := rv; simp only [deq]; exact RcNeAt.tuple_int b2 t2 ht1 hu'
    | str b2 => cases (show y = .str b2 from hy); obtain ⟨t2, rfl⟩ := rv; simp only [deq]; exact RcNeAt.tuple_str b2 t2 ht1 hu'
    | tup ds2 =>
      obtain ⟨a2, xs2, rfl, ha2, hs2⟩ := id hy; cases rv; obtain ⟨its2, r2, ht2⟩ := I.tupK ha2
      have hds : D.deeps ds1 ≤ 150 := by have := hd; simp [D.deep] at this; omega
      have z := RcNeAt.tuples (A := A) (s := s) (e := fun j => deq (ds1.getD j .non) (ds2.getD j .non)) ht1 ht2 hu' (seq_itemsK r1 r2 hs1 hs2 fun j e e' x y u v h1 h2 h3 h4 h5 h6 => (rc_and_eqK I 150 A.in1 e e' x y u v (Nat.le_trans (deep_mem h1) hds) hin h3 h4 h5 h6).2)
      have e1 : its1.toArray.size = ds1.length := by rw [List.size_toArray, ← r1.length, hs1.length]
      have e2 : its2.toArray.size = ds2.length := by rw [List.size_toArray, ← r2.length, hs2.length]
      rw [e1, e2, deqs_range] at z
      simp only [deq]
      exact z
    | lst ds2 => obtain ⟨a2, xs2, rfl, ha2, hs2⟩ := id hy; cases rv; obtain ⟨its2, r2, ht2⟩ := I.lstK ha2; simp only [deq]; exact RcNeAt.tuple_list ht1 ht2 hu'
  | lst ds1 =>
    obtain ⟨a1, xs1, rfl, ha1, hs1⟩ := id hx; cases ru; obtain ⟨its1, r1, ht1⟩ := I.lstK ha1
    cases d' with
    | non => cases (show y = .non from hy); cases rv; simp only [deq]; exact RcNeAt.list_none ht1 hu'
    | bl b2 => cases (show y = .bl b2 from hy); cases rv; simp only [deq]; exact RcNeAt.list_bool b2 ht1 hu'
    | int b2 => cases (show y = .int b2 from hy); obtain ⟨t2, rfl⟩ := rv; simp only [deq]; exact RcNeAt.list_int b2 t2 ht1 hu'
    | str b2 => cases (show y = .str b2 from hy); obtain ⟨t2, rfl⟩ := rv; simp only [deq]; exact RcNeAt.list_str b2 t2 ht1 hu'
    | tup ds2 => obtain ⟨a2, xs2, rfl, ha2, hs2⟩ := id hy; cases rv; obtain ⟨its2, r2, ht2⟩ := I.tupK ha2; simp only [deq]; exact RcNeAt.list_tuple ht1 ht2 hu'
    | lst ds2 =>
      obtain ⟨a2, xs2, rfl, ha2, hs2⟩ := id hy; cases rv; obtain ⟨its2, r2, ht2⟩ := I.lstK ha2
      have hds : D.deeps ds1 ≤ 150 := by have := hd; simp [D.deep] at this; omega
      have e1 : its1.toArray.size = ds1.length := by rw [List.size_toArray, ← r1.length, hs1.length]
      have e2 : its2.toArray.size = ds2.length := by rw [List.size_toArray, ← r2.length, hs2.length]
      simp only [deq]
      by_cases hl : ds1.length = ds2.length
      · have z := RcNeAt.lists (A := A) (s := s) (e := fun j => deq (ds1.getD j .non) (ds2.getD j .non)) ht1 ht2 (by rw [e1, e2]; exact hl) hu' (seq_itemsK r1 r2 hs1 hs2 fun j e e' x y u v h1 h2 h3 h4 h5 h6 => (rc_and_eqK I 150 A.in1 e e' x y u v (Nat.le_trans (deep_mem h1) hds) hin h3 h4 h5 h6).2)
        have q := deqs_range (ds := ds1) (ds' := ds2)
        rw [← hl, Nat.min_self, beq_self_eq_true, Bool.and_true] at q
        rw [e1, q] at z
        exact z
      · have z := RcNeAt.lists_lengths (A := A) (s := s) ht1 ht2 (by rw [e1, e2]; simpa using hl) hu'
        have q := deqs_range (ds := ds1) (ds' := ds2)
        rw [show (ds1.length == ds2.length) = false from beq_eq_false_iff_ne.mpr hl, Bool.and_false] at q
        rw [← q]
        exact z
def rNeK (K : PySem.W.Frag) : R2 := fun x y H Q => ∃ d d', RepK K H d x ∧ RepK K H d' y ∧ d.deep ≤ 150 ∧ Q (.bl (!deq d d')) H
theorem op_neK (hu : X.A.units + 151 < cLine) : OpR X (compareOp .NotEq) (rNeK X.K) := by
  intro pins s σ H x y v u Q I rx ry h
  obtain ⟨d, d', h1, h2, h3, q⟩ := h
  exact rc_neK I X.A d d' x y v u h3 hu h1 h2 rx ry X.prog X.w X.xe _ ⟨.bl _, H, I, rfl, q⟩
end
end L2
set_option Elab.async false
set_option linter.all false
set_option maxRecDepth 100000
namespace L2
open PySem PySem.Spec PyProof.Rows
mutual
def toDB (f : Nat → Option D) : M → Option D
  | .non => some .non
  | .bl b => some (.bl b)
  | .int i => some (.int i)
  | .str x => some (.str x)
  | .tup xs => (toDBs f xs).map .tup
  | .lst xs => (toDBs f xs).map .lst
  | .ref k => f k
  | .scr ns => some (.lst (ns.map D.int))
  | _ => none
def toDBs (f : Nat → Option D) : List M → Option (List D)
  | [] => some []
  | x :: xs => (toDB f x).bind fun d => (toDBs f xs).map (d :: ·)
end
def lookD (h : HpM) : Nat → Nat → Option D
  | 0, _ => none
  | q + 1, k => match h[k]? with | some (.lst xs) => (toDBs (lookD h q) xs).map .lst | _ => none
def toD (h : HpM) : M → Option D := toDB (lookD h 20)
theorem RepKs.ints {K : PySem.W.Frag} {H : Hp} : ∀ {ns : List Int}, RepKs K H (ns.map D.int) (ns.map V.int)
  | [] => rfl
  | n :: ns => ⟨_, _, rfl, rfl, RepKs.ints⟩
mutual
theorem toDB_rep {K : PySem.W.Frag} {α : Pl} {H : Hp} {f : Nat → Option D} (hf : ∀ k d v, f k = some d → RepA K α H (.ref k) v → RepK K H d v) : ∀ {m : M} {d : D} {v : V}, toDB f m = some d → RepA K α H m v → RepK K H d v
  | .non, _, _, e, r => by cases e; exact r
  | .bl b, _, _, e, r => by cases e; exact r
  | .int b, _, _, e, r => by cases e; exact r
  | .str b, _, _, e, r => by cases e; exact r
  | .tup xs, _, _, e, r => by
    obtain ⟨ds, e1, e2⟩ := Option.map_eq_some_iff.mp e
    subst e2
    obtain ⟨a, vs, e3, t, rs⟩ := r
    exact ⟨a, vs, e3, t.sq, toDBs_rep hf e1 rs⟩
  | .lst xs, _, _, e, r => by
    obtain ⟨ds, e1, e2⟩ := Option.map_eq_some_iff.mp e
    subst e2
    obtain ⟨a, vs, e3, n, t, rs⟩ := r
    exact ⟨a, vs, e3, .of t, toDBs_rep hf e1 rs⟩
  | .ref k, _, _, e, r => hf k _ _ e r
  | .scr ns, _, _, e, r => by
    cases e
    obtain ⟨a, e3, t⟩ := r
    exact ⟨a, _, e3, t.sq, RepKs.ints⟩
  | .ty _, _, _, e, _ => by cases e
  | .dct _ _, _, _, e, _ => by cases e
theorem toDBs_rep {K : PySem.W.Frag} {α : Pl} {H : Hp} {f : Nat → Option D} (hf : ∀ k d v, f k = some d → RepA K α H (.ref k) v → RepK K H d v) : ∀ {m : List M} {d : List D} {v : List V}, toDBs f m = some d → RepAs K α H m v → RepKs K H d v
  | [], _, _, e, r => by cases e; exact r
  | x :: xs, _, _, e, r => by
    obtain ⟨d, e1, e2⟩ := Option.bind_eq_some_iff.mp e
    obtain ⟨ds, e3, e4⟩ := Option.map_eq_some_iff.mp e2
    subst e4
    obtain ⟨v, vs, rfl, h1, h2⟩ := r
    exact ⟨v, vs, rfl, toDB_rep hf e1 h1, toDBs_rep hf e3 h2⟩
end
theorem lookD_rep {K : PySem.W.Frag} {α : Pl} {h : HpM} {H : Hp} (hr : Rl K α h H) : ∀ (q k : Nat) (d : D) (v : V), lookD h q k = some d → RepA K α H (.ref k) v → RepK K H d v
  | 0, _, _, _, e, _ => by cases e
  | q + 1, k, d, v, e, ⟨a, ha, e2⟩ => by
    unfold lookD at e
    split at e
    · rename_i xs hx
      obtain ⟨ds, e3, e4⟩ := Option.map_eq_some_iff.mp e
      subst e4
      obtain ⟨vs, hv, rs⟩ := hr.obj k a _ ha hx
      exact ⟨a, vs, e2, .of hv, toDBs_rep (fun k d v => lookD_rep hr q k d v) e3 rs⟩
    · cases e
theorem toD_rep {K : PySem.W.Frag} {α : Pl} {h : HpM} {H : Hp} {m : M} {d : D} {v : V} (hr : Rl K α h H) (e : toD h m = some d) (r : RepA K α H m v) : RepK K H d v := toDB_rep (fun k d v => lookD_rep hr 20 k d v) e r
def opEq (x y : M) (h : HpM) : Option M := (toD h x).bind fun d => (toD h y).bind fun d' => if d.deep ≤ 150 then some (.bl (deq d d')) else none
def opNe (x y : M) (h : HpM) : Option M := (toD h x).bind fun d => (toD h y).bind fun d' => if d.deep ≤ 150 then some (.bl (!deq d d')) else none
section
variable {X : Cx} {K : PySem.W.Frag}
theorem fm_eq : OpM K (rEqK K) opEq := by
  intro α h H x y d u v Q hr rx ry e k
  obtain ⟨d1, e1, e⟩ := Option.bind_eq_some_iff.mp e
  obtain ⟨d2, e2, e⟩ := Option.bind_eq_some_iff.mp e
  split at e
  · rename_i hd
    cases e
    exact ⟨d1, d2, toD_rep hr e1 rx, toD_rep hr e2 ry, hd, k H _ (Same.refl _) rfl⟩
  · cases e
theorem fm_ne : OpM K (rNeK K) opNe := by
  intro α h H x y d u v Q hr rx ry e k
  obtain ⟨d1, e1, e⟩ := Option.bind_eq_some_iff.mp e
  obtain ⟨d2, e2, e⟩ := Option.bind_eq_some_iff.mp e
  split at e
  · rename_i hd
    cases e
    exact ⟨d1, d2, toD_rep hr e1 rx, toD_rep hr e2 ry, hd, k H _ (Same.refl _) rfl⟩
  · cases e
def dctOf (h : HpM) : M → Option (List (Key × M))
  | .dct ks xs => if ks.length = xs.length then some (ks.zip xs) else none
  | .ref k => (match h[k]? with | some (.dct kvs) => some kvs | _ => none)
  | _ => none
theorem dctOf_rep {α : Pl} {h : HpM} {H : Hp} {m : M} {v : V} {kvs : List (Key × M)} (hr : Rl K α h H) (rm : RepA K α H m v) (e : dctOf h m = some kvs) : ∃ a ws, v = .ref a ∧ H a = some (.dK ws) ∧ ws.map (·.1) = kvs.map (·.1) ∧ RepAs K α H (kvs.map (·.2)) (ws.map (·.2)) := by
  unfold dctOf at e
  split at e
  · split at e
    · rename_i hl
      cases e
      obtain ⟨a, ws, e1, n, ha, ek, rs⟩ := rm
      exact ⟨a, ws, e1, ha, by rw [ek, List.map_fst_zip (by omega)], by rw [List.map_snd_zip (by omega)]; exact rs⟩
    · cases e
  · split at e
    · rename_i hk
      cases e
      obtain ⟨a, ha, e1⟩ := rm
      obtain ⟨ws, hv, ek, rs⟩ := hr.obj _ a _ ha hk
      exact ⟨a, ws, e1, hv, ek, rs⟩
    · cases e
  · cases e
def bLen (xs : List M) (h : HpM) : Option M := match xs with
  | [.str z] => if z.length ≤ 16777216 then some (.int z.length) else none
  | [.tup ys] => some (.int ys.length)
  | [.dct ks ys] => some (.int ks.length)
  | [x] => (match seqR h x with
    | some ys => some (.int ys.length)
    | none => (dctOf h x).map fun kvs => .int kvs.length)
  | _ => none
def rLenM (K : PySem.W.Frag) : List V → Hp → VK → Prop := fun xs H Q => (∃ z, xs = [.str z] ∧ z.length ≤ sizeLine ∧ Q (.int z.length) H) ∨ (∃ p ys, xs = [.ref p] ∧ (SqL K H p ys ∨ SqT K H p ys) ∧ Q (.int ys.length) H) ∨ ∃ a kvs, xs = [V.ref a] ∧ H a = some (.dK kvs) ∧ Q (.int kvs.length) H
theorem call_lenM : CallR X (.builtin "len") (rLenM X.K) := by
  intro pins s σ H xs us Q I r h
  rcases h with h | h | h
  · exact call_len_str pins s σ H _ us Q I r h
  · exact call_len_seq pins s σ H _ us Q I r h
  · exact call_lenD pins s σ H _ us Q I r h
theorem rep1 {α : Pl} {H : Hp} {x : M} {us : List V} (r : RepAs K α H [x] us) : ∃ u, us = [u] ∧ RepA K α H x u := by
  obtain ⟨u, q, rfl, h1, h2⟩ := r
  cases (show q = [] from h2)
  exact ⟨u, rfl, h1⟩
theorem rep2 {α : Pl} {H : Hp} {x y : M} {us : List V} (r : RepAs K α H [x, y] us) : ∃ u v, us = [u, v] ∧ RepA K α H x u ∧ RepA K α H y v := by
  obtain ⟨u, q, rfl, h1, h2⟩ := r
  obtain ⟨v, rfl, h3⟩ := rep1 h2
  exact ⟨u, v, rfl, h1, h3⟩
theorem fm_len : CallM K (rLenM K) bLen := by
  intro α h H xs d us Q hr rs e k
  unfold bLen at e
  split at e
  · split at e
    · rename_i hl
      cases e
      obtain ⟨u, rfl, ru⟩ := rep1 rs
      cases (show u = .str _ from ru)
      exact .inl ⟨_, rfl, by rw [sizeLine_eq]; exact hl, k H _ (Same.refl _) rfl⟩
    · cases e
  · cases e
    obtain ⟨u, rfl, a, vs, rfl, t, rv⟩ := rep1 rs
    exact .inr (.inl ⟨a, vs, rfl, .inr t.sq, k H _ (Same.refl _) (by rw [rv.length]; rfl)⟩)
  · cases e
    obtain ⟨u, rfl, a, ws, rfl, n, ha, ek, rv⟩ := rep1 rs
    exact .inr (.inr ⟨a, ws, rfl, ha, k H _ (Same.refl _) (by rw [← ek, List.length_map]; rfl)⟩)
  · obtain ⟨u, rfl, ru⟩ := rep1 rs
    split at e
    · rename_i ys hy
      cases e
      obtain ⟨a, vs, rfl, t, rv⟩ := seqR_rep hr ru hy
      exact .inr (.inl ⟨a, vs, rfl, .inl t, k H _ (Same.refl _) (by rw [rv.length]; rfl)⟩)
    · obtain ⟨kvs, e1, e2⟩ := Option.map_eq_some_iff.mp e
      subst e2
      obtain ⟨a, ws, rfl, ha, ek, rv⟩ := dctOf_rep hr ru e1
      refine .inr (.inr ⟨a, ws, rfl, ha, k H _ (Same.refl _) ?_⟩)
      have : ws.length = kvs.length := by have := congrArg List.length ek; simpa using this
      rw [this]; rfl
  · cases e
def bAbs (xs : List M) (_ : HpM) : Option M := match xs with | [.int i] => some (.int (if i < 0 then -i else i)) | _ => none
theorem fm_abs : CallM K (fun xs H Q => ∃ i, xs = [.int i] ∧ Q (.int (if i < 0 then -i else i)) H) bAbs := by
  intro α h H xs d us Q hr rs e k
  unfold bAbs at e
  split at e
  · cases e
    obtain ⟨u, rfl, ru⟩ := rep1 rs
    cases (show u = .int _ from ru)
    exact ⟨_, rfl, k H _ (Same.refl _) rfl⟩
  · cases e
def bOrd (xs : List M) (_ : HpM) : Option M := match xs with | [.str z] => if z.length = 1 then some (.int (z.cps.getD 0 0 : Nat)) else none | _ => none
theorem fm_ord : CallM K (fun xs H Q => ∃ x, xs = [.str x] ∧ x.length = 1 ∧ Q (.int (x.cps.getD 0 0 : Nat)) H) bOrd := by
  intro α h H xs d us Q hr rs e k
  unfold bOrd at e
  split at e
  · split at e
    · rename_i hl
      cases e
      obtain ⟨u, rfl, ru⟩ := rep1 rs
      cases (show u = .str _ from ru)
      exact ⟨_, rfl, hl, k H _ (Same.refl _) rfl⟩
    · cases e
  · cases e
def tyM (h : HpM) : M → String
  | .non => "NoneType"
  | .bl _ => "bool"
  | .int _ => "int"
  | .str _ => "str"
  | .tup _ => "tuple"
  | .lst _ => "list"
  | .scr _ => "list"
  | .dct _ _ => "dict"
  | .ref k => (match h[k]? with | some (.lst _) => "list" | some (.dct _) => "dict" | none => "")
  | .ty _ => ""
def tysM : List M → Option (List String)
  | [] => some []
  | .ty c :: r => (tysM r).map (c :: ·)
  | _ => none
def okTy (c : String) : Bool := c == "str" || c == "int" || c == "bool" || c == "tuple" || c == "list"
def bInst (xs : List M) (h : HpM) : Option M := match xs with
  | [x, .ty c] => if tyM h x ≠ "" ∧ okTy c = true then some (.bl (instB (tyM h x) c)) else none
  | [x, .tup ts] => (tysM ts).bind fun cs => if tyM h x ≠ "" ∧ cs.all okTy = true then some (.bl (cs.any (instB (tyM h x)))) else none
  | _ => none
inductive TyK (K : PySem.W.Frag) (H : Hp) : V → String → Prop where
  | non : TyK K H .non "NoneType"
  | bl (x : Bool) : TyK K H (.bl x) "bool"
  | int (i : Int) : TyK K H (.int i) "int"
  | str (x : Str) : TyK K H (.str x) "str"
  | lst {a : Addr} {xs : List V} (e : SqL K H a xs) : TyK K H (.ref a) "list"
  | tup {a : Addr} {xs : List V} (e : SqT K H a xs) : TyK K H (.ref a) "tuple"
  | dK {a : Addr} {kvs : List (Key × V)} (e : H a = some (.dK kvs)) : TyK K H (.ref a) "dict"
theorem tyM_rep {α : Pl} {h : HpM} {H : Hp} {m : M} {v : V} (hr : Rl K α h H) (r : RepA K α H m v) (n : tyM h m ≠ "") : TyK K H v (tyM h m) := by
  cases m with
  | non => cases (show v = .non from r); exact .non
  | bl b => cases (show v = .bl b from r); exact .bl b
  | int b => cases (show v = .int b from r); exact .int b
  | str b => cases (show v = .str b from r); exact .str b
  | ty b => exact absurd rfl n
  | tup xs => obtain ⟨a, vs, rfl, t, _⟩ := r; exact .tup t.sq
  | lst xs => obtain ⟨a, vs, rfl, _, t, _⟩ := r; exact .lst (.of t)
  | scr xs => obtain ⟨a, rfl, t⟩ := r; exact .lst t.sq
  | dct ks xs => obtain ⟨a, vs, rfl, _, t, _⟩ := r; exact .dK t
  | ref k =>
    obtain ⟨a, ha, rfl⟩ := r
    unfold tyM at n ⊢
    dsimp only at n ⊢
    cases e : h[k]? with
    | none => rw [e] at n; exact absurd rfl n
    | some o =>
      cases o with
      | lst xs => obtain ⟨vs, hv, _⟩ := hr.obj k a _ ha e; exact .lst (.of hv)
      | dct xs => obtain ⟨vs, hv, _⟩ := hr.obj k a _ ha e; exact .dK hv
theorem TyK.name {H : Hp} {x : V} {t : String} (h : TyK K H x t) : t = "NoneType" ∨ t = "bool" ∨ t = "int" ∨ t = "str" ∨ t = "list" ∨ t = "tuple" ∨ t = "dict" := by cases h <;> simp
def rInstM (K : PySem.W.Frag) : List V → Hp → VK → Prop := fun xs H Q => (∃ x t c, xs = [x, .ty c] ∧ TyK K H x t ∧ okTy c = true ∧ Q (.bl (instB t c)) H) ∨
  ∃ (x : V) (t : String) (p : Addr) (cs : List String), xs = [x, .ref p] ∧ TyK K H x t ∧ SqT K H p (cs.map V.ty) ∧ cs.all okTy = true ∧ Q (.bl (cs.any (instB t))) H
theorem okTy_of {c : String} (h : okTy c = true) : c = "str" ∨ c = "int" ∨ c = "bool" ∨ c = "tuple" ∨ c = "list" := by
  simpa [okTy, or_assoc] using h
theorem call_instM : CallR X (.builtin "isinstance") (rInstM X.K) := by
  intro pins s σ H xs us Q I r h
  rcases h with ⟨x, t, c, rfl, ty, hc, q⟩ | ⟨x, t, p, cs, rfl, ty, hp, hc, q⟩
  · obtain ⟨u, w', rfl, ru, rw'⟩ := vals2 r
    obtain rfl : w' = Value.type c := rw'
    have e := kit_instB X.K ty.name (okTy_of hc)
    have fin : ∀ tk, EP X pins σ Q (.bool (instB t c)) { s with toks := tk } := fun tk => ⟨.bl _, H, I.tok _, rfl, q⟩
    cases ty with
    | non => cases (show u = Value.none from ru); exact PySem.W.kia_one PySem.W.kitx_none I.kIn True.intro e (fun z => nomatch z) fin
    | bl y => cases (show u = Value.bool y from ru); exact PySem.W.kia_one PySem.W.kitx_bool I.kIn True.intro e (fun z => nomatch z) fin
    | int i => obtain ⟨t, q⟩ := (show ∃ t, u = Value.int i t from ru); cases q; exact PySem.W.kia_one PySem.W.kitx_int I.kIn True.intro e (fun z => nomatch z) fin
    | str y => obtain ⟨t, q⟩ := (show ∃ t, u = Value.str y t from ru); cases q; exact PySem.W.kia_one PySem.W.kitx_str I.kIn True.intro e (fun z => nomatch z) fin
    | lst hx =>
      cases (show u = Value.ref _ from ru)
      obtain ⟨its, _, o, e1, c1, _⟩ := I.lstK hx
      exact PySem.W.kia_one PySem.W.kitx_list I.kIn ⟨o, e1, c1⟩ e (fun z => nomatch z) fin
    | tup hx =>
      cases (show u = Value.ref _ from ru)
      obtain ⟨its, _, o, e1, c1, _⟩ := I.tupK hx
      exact PySem.W.kia_one PySem.W.kitx_tuple I.kIn ⟨o, e1, c1⟩ e (fun z => nomatch z) fin
    | @dK a kvs ea =>
      cases (show u = Value.ref a from ru)
      obtain ⟨_, _, vs, _, p⟩ := (show ObjOk X.prog X.w H s.heap a (.dK kvs) from I.hok a _ ea)
      obtain ⟨o, es, ep, h1, h2, _⟩ := p
      exact PySem.W.kia_one PySem.W.kitx_dict I.kIn ⟨o, h1, h2.1⟩ e (fun z => nomatch z) fin
  · obtain ⟨u, w', rfl, ru, rw'⟩ := vals2 r
    obtain rfl : w' = Value.ref p := rw'
    have e := kitAny_of X.K ty.name (cs := cs) fun c hm => okTy_of (List.all_eq_true.mp hc c hm)
    obtain ⟨its, rv, ht⟩ := I.tupK hp
    have ei := vals_ty rv
    obtain ⟨⟨cls, dd, data, sl⟩, ho, hcl, n, hd⟩ := id ht
    simp only at hcl hd
    subst hcl hd
    rw [← ei] at e
    have fin : ∀ tk, EP X pins σ Q (.bool (cs.any (instB t))) { s with toks := tk } := fun tk => ⟨.bl _, H, I.tok _, rfl, q⟩
    cases ty with
    | non => cases (show u = Value.none from ru); exact PySem.W.kia_tup PySem.W.kitx_none I.kIn True.intro ho e (fun z => nomatch z) fin
    | bl y => cases (show u = Value.bool y from ru); exact PySem.W.kia_tup PySem.W.kitx_bool I.kIn True.intro ho e (fun z => nomatch z) fin
    | int i => obtain ⟨t, q⟩ := (show ∃ t, u = Value.int i t from ru); cases q; exact PySem.W.kia_tup PySem.W.kitx_int I.kIn True.intro ho e (fun z => nomatch z) fin
    | str y => obtain ⟨t, q⟩ := (show ∃ t, u = Value.str y t from ru); cases q; exact PySem.W.kia_tup PySem.W.kitx_str I.kIn True.intro ho e (fun z => nomatch z) fin
    | lst hx =>
      cases (show u = Value.ref _ from ru)
      obtain ⟨its, _, o, e1, c1, _⟩ := I.lstK hx
      exact PySem.W.kia_tup PySem.W.kitx_list I.kIn ⟨o, e1, c1⟩ ho e (fun z => nomatch z) fin
    | tup hx =>
      cases (show u = Value.ref _ from ru)
      obtain ⟨its, _, o, e1, c1, _⟩ := I.tupK hx
      exact PySem.W.kia_tup PySem.W.kitx_tuple I.kIn ⟨o, e1, c1⟩ ho e (fun z => nomatch z) fin
    | @dK a kvs ea =>
      cases (show u = Value.ref a from ru)
      obtain ⟨_, _, vs, _, p⟩ := (show ObjOk X.prog X.w H s.heap a (.dK kvs) from I.hok a _ ea)
      obtain ⟨o, es, ep, h1, h2, _⟩ := p
      exact PySem.W.kia_tup PySem.W.kitx_dict I.kIn ⟨o, h1, h2.1⟩ ho e (fun z => nomatch z) fin
theorem tysM_rep {α : Pl} {H : Hp} : ∀ {xs : List M} {cs : List String} {vs : List V}, tysM xs = some cs → RepAs K α H xs vs → vs = cs.map V.ty
  | [], _, vs, e, r => by cases e; exact r
  | .ty b :: xs, _, vs, e, r => by
    obtain ⟨cs, e1, e2⟩ := Option.map_eq_some_iff.mp e
    subst e2
    obtain ⟨v, q, rfl, h1, h2⟩ := r
    rw [tysM_rep e1 h2, show v = .ty b from h1]
    rfl
  | .non :: _, _, _, e, _ | .int _ :: _, _, _, e, _ | .str _ :: _, _, _, e, _ | .bl _ :: _, _, _, e, _ | .tup _ :: _, _, _, e, _ | .lst _ :: _, _, _, e, _ | .dct _ _ :: _, _, _, e, _ | .ref _ :: _, _, _, e, _ | .scr _ :: _, _, _, e, _ => by cases e
theorem fm_inst : CallM K (rInstM K) bInst := by
  intro α h H xs d us Q hr rs e k
  unfold bInst at e
  split at e
  · split at e
    · rename_i hc
      cases e
      obtain ⟨u, v, rfl, ru, rv⟩ := rep2 rs
      cases (show v = .ty _ from rv)
      exact .inl ⟨u, _, _, rfl, tyM_rep hr ru hc.1, hc.2, k H _ (Same.refl _) rfl⟩
    · cases e
  · obtain ⟨cs, e1, e⟩ := Option.bind_eq_some_iff.mp e
    split at e
    · rename_i hc
      cases e
      obtain ⟨u, v, rfl, ru, a, vs, rfl, t, rv⟩ := rep2 rs
      rw [tysM_rep e1 rv] at t
      exact .inr ⟨u, _, a, cs, rfl, tyM_rep hr ru hc.1, t.sq, hc.2, k H _ (Same.refl _) rfl⟩
    · cases e
  · cases e
end
end L2
set_option Elab.async false
set_option linter.all false
set_option maxRecDepth 100000
namespace L2
open PySem PySem.Spec PyProof.Rows
section
variable {X : Cx} {K : PySem.W.Frag}
def onL (f : List M → Option (M × List M)) (x : M) (h : HpM) : Option (M × HpM) := match x with
  | .ref k => (match h[k]? with | some (.lst xs) => (f xs).map fun (d, ys) => (d, h.set k (.lst ys)) | _ => none)
  | _ => none
theorem onL_inv {f : List M → Option (M × List M)} {x : M} {h : HpM} {d : M} {h' : HpM} (e : onL f x h = some (d, h')) : ∃ k xs ys, x = .ref k ∧ h[k]? = some (.lst xs) ∧ f xs = some (d, ys) ∧ h' = h.set k (.lst ys) := by
  unfold onL at e
  split at e
  · split at e
    · rename_i hk
      obtain ⟨⟨d1, ys⟩, e1, e2⟩ := Option.map_eq_some_iff.mp e
      cases e2
      exact ⟨_, _, ys, rfl, hk, e1, rfl⟩
    · cases e
  · cases e
def strsM : List M → Option (List Str)
  | [] => some []
  | .str z :: r => (strsM r).map (z :: ·)
  | _ => none
theorem strsM_rep {α : Pl} {H : Hp} : ∀ {xs : List M} {cs : List Str} {vs : List V}, strsM xs = some cs → RepAs K α H xs vs → vs = cs.map V.str
  | [], _, vs, e, r => by cases e; exact r
  | .str b :: xs, _, vs, e, r => by
    obtain ⟨cs, e1, e2⟩ := Option.map_eq_some_iff.mp e
    subst e2
    obtain ⟨v, q, rfl, h1, h2⟩ := r
    rw [strsM_rep e1 h2, show v = .str b from h1]
    rfl
  | .non :: _, _, _, e, _ | .int _ :: _, _, _, e, _ | .ty _ :: _, _, _, e, _ | .bl _ :: _, _, _, e, _ | .tup _ :: _, _, _, e, _ | .lst _ :: _, _, _, e, _ | .dct _ _ :: _, _, _, e, _ | .ref _ :: _, _, _, e, _ | .scr _ :: _, _, _, e, _ => by cases e
def gSubM (o i : FE) : FG := fun x ρ h => bnd (o ρ h) fun oo h1 => bnd (i ρ h1) fun ii h2 => match ii with
  | .int j => bnd (onL (fun ys => (ixN ys.length j).map fun q => (.non, ys.set q x)) oo h2) fun _ h3 => some (ρ, h3)
  | _ => none
theorem mg_sub {o i : Expr} {mo mi : FE} {pos : Pos} (ho : PE X o (tM X.K mo)) (hi : PE X i (tM X.K mi))
    (ha : ∀ v, assign (.Subscript o i pos) X.env v = (do
      let ov ← holding [v] (eval o X.env)
      let iv ← holding [v, ov] (eval i X.env)
      standAt pos
      holding [v, ov, iv] (setItem ov iv v)
      release [v, ov, iv] [])) : PG X (.Subscript o i pos) (gM X.K (gSubM mo mi)) := (pg_sub ho hi set_list ha).imp fun v σ H Q ⟨α, ρ, h, x, ρ', h', hσ, hr, rx, e, k⟩ => by
  obtain ⟨oo, h1, e1, e⟩ := bnd_inv e
  obtain ⟨ii, h2, e2, e⟩ := bnd_inv e
  split at e
  · obtain ⟨_, h3, e3, e⟩ := bnd_inv e
    cases e
    obtain ⟨q, xs, ys, rfl, hq, e4, rfl⟩ := onL_inv e3
    obtain ⟨j, e5, e6⟩ := Option.map_eq_some_iff.mp e4
    cases e6
    refine ⟨α, ρ, h, _, h1, hσ, hr, e1, fun α1 H1 u ev1 hr1 ru => ⟨α1, ρ, h1, _, h2, hσ.ev ev1, hr1, e2, fun α2 H2 w ev2 hr2 rw' => ?_⟩⟩
    obtain ⟨a, ha, rfl⟩ := ru
    have ha2 := ev2.ix ha
    obtain ⟨vs, hv, rvs⟩ := hr2.obj q a _ ha2 hq
    refine ⟨a, vs, _, j, rfl, rw', hv, by rw [← rvs.length]; exact e5, ?_⟩
    have ev : Ev α2 α2 H2 (upd H2 a (.lst (vs.set j v))) := Ev.write hr2 (List.mem_of_getElem? ha2)
    have evA := (ev1.trans ev2).trans ev
    exact k α2 _ σ evA (hr2.write ha2 ⟨_, upd_same, (rvs.set ((rx.ev ev1).ev ev2) j).ev ev⟩) (hσ.ev evA)
  · cases e
end
end L2
set_option Elab.async false
set_option linter.all false
set_option maxRecDepth 100000
namespace L2
open PySem PySem.Spec PyProof.Rows
def spLaw (K : PySem.W.Frag) : Sp := fun vs H Q _ => ∃ (a : Addr) (ns : List Int), vs = [.ref a] ∧ SqL K H a (ns.map V.int) ∧ ns.length ≤ 63 ∧ ∀ H', Q (.bl true) H'
theorem spLaw_of {K : PySem.W.Frag} {H : Hp} {a : Addr} {ns : List Int} (hl : ns.length ≤ 63) (hS : SqL K H a (ns.map V.int)) : spLaw K [.ref a] H (fun v _ => v = .bl true) fun _ _ _ => False := ⟨a, ns, rfl, hS, hl, fun _ => rfl⟩
theorem spLaw_spM {K : PySem.W.Frag} {m : FF} (hm : ∀ ns : List Int, ns.length ≤ 63 → ∃ h', m [.scr ns] [] = some (.bl true, h')) {vs : List V} {H : Hp} {Q : VK} {E : XK} (q : spLaw K vs H Q E) : spM K m vs H Q E := by
  obtain ⟨a, ns, rfl, hS, hl, k⟩ := q
  obtain ⟨h', e⟩ := hm ns hl
  refine ⟨⟨[], []⟩, [], [.scr ns], .bl true, h', ⟨_, _, rfl, ⟨a, rfl, ?_⟩, rfl⟩, ⟨rfl, by simp, by simp, by simp, fun k a o hk => by simp at hk⟩, e, fun α' H' v _ _ rv => ?_⟩
  · rcases hS with hS | hS
    · exact .inl ⟨hS, by simp, by simp⟩
    · exact .inr hS
  · cases (show v = .bl true from rv); exact k H'
end L2
set_option Elab.async false
set_option linter.all false
set_option maxRecDepth 100000
namespace L2
open PySem PySem.Spec PyProof.Rows
section
variable {X : Cx} {K : PySem.W.Frag} {mas : FA} {p pos : Pos}
def zOf : M → Option (List M)
  | .str z => some (z.cps.toList.map fun c => M.str ⟨#[c]⟩)
  | .lst xs => some xs
  | .scr ns => some (ns.map M.int)
  | _ => none
def iZip (a : FA) : FI := fun ρ h => bnd (a ρ h) fun xs h1 => match xs with
  | [x, y] => (zOf x).bind fun us => (zOf y).bind fun vs => some ((List.zipWith (fun u v => M.tup [u, v]) us vs, none), h1)
  | _ => none
theorem zOf_src {α : Pl} {H : Hp} {m : M} {v : V} {us : List M} (e : zOf m = some us) (r : RepA K α H m v) : ∃ a : ZSrc, v = a.val ∧ zLen K H a us.length ∧ ∀ i u x, us[i]? = some u → zAt K H a i x → RepA K α H u x := by
  unfold zOf at e
  split at e
  · rename_i z
    cases e
    refine ⟨.str z, r, by simp [zLen], fun i u x hu hx => ?_⟩
    obtain ⟨c, hc, rfl⟩ := hx
    rw [List.getElem?_map] at hu
    have : z.cps.toList[i]? = some c := by simpa using hc
    rw [this] at hu
    cases hu
    exact rfl
  · cases e
    obtain ⟨a, vs, rfl, n, ha, rs⟩ := r
    refine ⟨.lst a, rfl, ⟨vs, .of ha, rs.length⟩, fun i u x hu hx => ?_⟩
    obtain ⟨w, hw, rw'⟩ := rs.get hu
    have := hx vs (.of ha)
    rw [hw] at this
    cases this
    exact rw'
  · rename_i ns
    cases e
    obtain ⟨a, rfl, t⟩ := r
    refine ⟨.lst a, rfl, ⟨_, t.sq, by simp⟩, fun i u x hu hx => ?_⟩
    have rs : RepAs K α H (ns.map M.int) (ns.map V.int) := RepAs.ints
    obtain ⟨w, hw, rw'⟩ := rs.get hu
    have := hx _ t.sq
    rw [hw] at this
    cases this
    exact rw'
  · cases e
theorem mi_zip {x y : Expr} {elts : List Expr} {k0 : Nat} {tp : Pos} (q : NmOk X.env.scope "zip" .globalImplicit) (hm : X.mg "zip" = none) (ha : PA X [x, y] (aM X.K mas)) (hs : starEach [x, y] X.env = [(false, eval x X.env), (false, eval y X.env)]) (hs2 : starEach [y] X.env = [(false, eval y X.env)]) :
    PI X (.Tuple elts k0 tp) (.Call (.Name "zip" p) [x, y] [] pos) (iM X.K (iZip mas)) := (pi_zip q.lk hm ha hs hs2).imp fun σ H R ⟨α, ρ, h, s, h', hσ, hr, e, k⟩ => by
  obtain ⟨xs, h1, e1, e⟩ := bnd_inv e
  split at e
  · obtain ⟨us, e2, e⟩ := Option.bind_eq_some_iff.mp e
    obtain ⟨vs, e3, e⟩ := Option.bind_eq_some_iff.mp e
    cases e
    refine ⟨α, ρ, h, _, _, hσ, hr, e1, fun α1 H1 ws ev1 hr1 rs => ?_⟩
    obtain ⟨u, v, rfl, ru, rv⟩ := rep2 rs
    obtain ⟨a, rfl, la, _⟩ := zOf_src e2 ru
    obtain ⟨b, rfl, lb, _⟩ := zOf_src e3 rv
    refine ⟨a, b, rfl, ⟨_, la⟩, ⟨_, lb⟩, k α1 H1 _ ev1 hr1 fun γ hγ α2 h2 H2 ev2 hr2 _ i => ?_⟩
    have vi : ∀ {a b : ZSrc}, a.val = b.val → a = b := fun {a b} h => by cases a <;> cases b <;> cases h <;> rfl
    obtain ⟨a', ea, la2, pa⟩ := zOf_src e2 ((ru.hides hγ).ev ev2)
    obtain ⟨b', eb, lb2, pb⟩ := zOf_src e3 ((rv.hides hγ).ev ev2)
    cases vi ea
    cases vi eb
    refine ⟨fun z hz => ?_, fun hl => ?_⟩
    · rw [List.getElem?_zipWith] at hz
      cases qu : us[i]? with
      | none => rw [qu] at hz; cases hz
      | some u =>
        cases qv : vs[i]? with
        | none => rw [qu, qv] at hz; cases hz
        | some v =>
          rw [qu, qv] at hz
          cases hz
          refine ⟨⟨_, _, la2, lb2, (List.getElem?_eq_some_iff.mp qu).1, (List.getElem?_eq_some_iff.mp qv).1⟩, fun w H3 y => ?_⟩
          obtain ⟨x, y, p, ax, ay, hp, rfl, rfl⟩ := y
          exact ⟨same_new hp _, laidT hr2 hp ⟨x, _, rfl, pa i u x qu ax, y, _, rfl, pb i v y qv ay, rfl⟩⟩
    · have hl' : i = min us.length vs.length := by simpa using hl
      exact ⟨_, _, la2, lb2, by omega, by omega, by omega⟩
  · cases e
def intsM : List M → Option (List Int)
  | [] => some []
  | .int z :: r => (intsM r).map (z :: ·)
  | _ => none
theorem intsM_rep {α : Pl} {H : Hp} : ∀ {xs : List M} {cs : List Int} {vs : List V}, intsM xs = some cs → RepAs K α H xs vs → vs = cs.map V.int
  | [], _, vs, e, r => by cases e; exact r
  | .int b :: xs, _, vs, e, r => by
    obtain ⟨cs, e1, e2⟩ := Option.map_eq_some_iff.mp e
    subst e2
    obtain ⟨v, q, rfl, h1, h2⟩ := r
    rw [intsM_rep e1 h2, show v = .int b from h1]
    rfl
  | .non :: _, _, _, e, _ | .str _ :: _, _, _, e, _ | .ty _ :: _, _, _, e, _ | .bl _ :: _, _, _, e, _ | .tup _ :: _, _, _, e, _ | .lst _ :: _, _, _, e, _ | .dct _ _ :: _, _, _, e, _ | .ref _ :: _, _, _, e, _ | .scr _ :: _, _, _, e, _ => by cases e
def leI (a b : Int) : Bool := decide (a ≤ b)
def leS (a b : Str) : Bool := !decide (b.cps.toList < a.cps.toList)
theorem perm_eq {α : Type} {le : α → α → Bool} (as : ∀ a b, le a b = true → le b a = true → a = b) : ∀ {xs ys : List α}, xs.Perm ys → xs.Pairwise (fun a b => le a b = true) → ys.Pairwise (fun a b => le a b = true) → xs = ys
  | [], ys, p, _, _ => by rw [List.Perm.eq_nil p.symm]
  | x :: xs, [], p, _, _ => by have := p.eq_nil; cases this
  | x :: xs, y :: ys, p, hx, hy => by
    have hxy : x = y := by
      have m1 : x ∈ y :: ys := p.mem_iff.mp List.mem_cons_self
      have m2 : y ∈ x :: xs := p.mem_iff.mpr List.mem_cons_self
      rcases List.mem_cons.mp m1 with e | e
      · exact e
      · rcases List.mem_cons.mp m2 with e' | e'
        · exact e'.symm
        · exact as x y (List.rel_of_pairwise_cons hx e') (List.rel_of_pairwise_cons hy e)
    subst hxy
    rw [perm_eq as ((List.perm_cons x).mp p) (List.Pairwise.of_cons hx) (List.Pairwise.of_cons hy)]
theorem leI_anti (a b : Int) (h : leI a b = true) (h' : leI b a = true) : a = b := by simp [leI] at h h'; omega
theorem leS_anti (a b : Str) (h : leS a b = true) (h' : leS b a = true) : a = b := by
  simp only [leS, Bool.not_eq_true', decide_eq_false_iff_not] at h h'
  have e : a.cps.toList = b.cps.toList := List.le_antisymm h h'
  cases a; cases b
  simp at e
  rw [e]
theorem leS_total (a b : Str) : (leS a b || leS b a) = true := by
  simp only [leS, Bool.or_eq_true, Bool.not_eq_true', decide_eq_false_iff_not]
  rcases List.le_total (l₁ := a.cps.toList) (l₂ := b.cps.toList) with h | h
  · exact .inl h
  · exact .inr h
theorem leS_trans (a b c : Str) (h : leS a b = true) (h' : leS b c = true) : leS a c = true := by
  simp only [leS, Bool.not_eq_true', decide_eq_false_iff_not] at h h' ⊢
  exact List.le_trans (l₁ := a.cps.toList) (l₂ := b.cps.toList) (l₃ := c.cps.toList) h h'
def sortI (ns : List Int) : List Int := ns.mergeSort leI
def sortS (ns : List Str) : List Str := ns.mergeSort leS
theorem sortI_pw (ns : List Int) : (sortI ns).Pairwise (fun a b => leI a b = true) := List.pairwise_mergeSort (fun a b c h h' => by simp [leI] at *; omega) (fun a b => by simp [leI]; omega) ns
theorem sortS_pw (ns : List Str) : (sortS ns).Pairwise (fun a b => leS a b = true) := List.pairwise_mergeSort leS_trans leS_total ns
theorem pw_rising : ∀ {p : Str} {l : List Str}, risingS p l = true → (p :: l).Pairwise (fun a b => leS a b = true)
  | p, [], _ => by simp
  | p, x :: r, h => by
    have h' : (!ltCps x.cps.toList p.cps.toList && risingS x r) = true := h
    rw [Bool.and_eq_true, ltCps_eq] at h'
    have ih := pw_rising h'.2
    refine List.pairwise_cons.mpr ⟨fun y hy => ?_, ih⟩
    rcases List.mem_cons.mp hy with rfl | hy
    · exact h'.1
    · exact leS_trans _ _ _ h'.1 (List.rel_of_pairwise_cons ih hy)
theorem pw_sortedS : ∀ {l : List Str}, sortedS l = true → l.Pairwise (fun a b => leS a b = true)
  | [], _ => .nil
  | x :: r, h => pw_rising h
def rSortedM : List V → Hp → VK → Prop := fun xs H Q => (∃ (p : Addr) (ns : List Int), xs = [.ref p] ∧ H p = some (.lst (ns.map V.int)) ∧ ns.length < 64 ∧ ∀ l, H l = none → Q (.ref l) (upd H l (.lst ((sortI ns).map V.int)))) ∨
  ∃ (p : Addr) (ss : List Str), xs = [.ref p] ∧ H p = some (.lst (ss.map V.str)) ∧ ss.length < 64 ∧ ∀ l, H l = none → Q (.ref l) (upd H l (.lst ((sortS ss).map V.str)))
theorem intsAre_of' {ys : List Int} : ∀ {us : List Value}, Vals (ys.map V.int) us → IntsAre us ys := by
  induction ys with
  | nil => intro us r; rw [List.map_nil] at r; cases r; exact .nil
  | cons n ns ih =>
    intro us r
    rw [List.map_cons] at r
    cases r with
    | cons r1 r2 =>
      obtain ⟨t, e⟩ := r1
      subst e
      exact .cons n t (ih r2)
theorem vals_intsM : ∀ {us : List Value} {ys : List Int}, IntsAre us ys → Vals (ys.map V.int) us
  | _, _, .nil => .nil
  | _, _, .cons n t h => .cons ⟨t, rfl⟩ (vals_intsM h)
theorem vals_strsM : ∀ {us : List Value} {ys : List Str}, StrsAre us ys → Vals (ys.map V.str) us
  | _, _, .nil => .nil
  | _, _, .cons n t h => .cons ⟨t, rfl⟩ (vals_strsM h)
theorem call_sortedM : CallR X (.builtin "sorted") rSortedM := by
  intro pins s σ H xs us Q I r h
  rcases h with ⟨p, ns, rfl, hp, hl, q⟩ | ⟨p, ss, rfl, hp, hl, q⟩
  · obtain ⟨u, rfl, ru⟩ := vals1 r
    obtain rfl : u = Value.ref p := ru
    obtain ⟨its, rv, pl, hz⟩ := I.list (SqL.of hp)
    have hI := intsAre_of' rv
    have hlen := rv.length
    simp only [List.length_map] at hlen
    refine sorted_ints pl.isList hI (by omega) fun out ns' h1 h2 h3 => ?_
    obtain ⟨e, he⟩ := sortedAll_at s.heap its out
    have ens : ns' = sortI ns := perm_eq leI_anti (h2.trans (List.mergeSort_perm ns leI).symm) (h3.imp fun h => by simpa [leI] using h) (sortI_pw ns)
    subst ens
    have hn : H (s.heap.objs.size + 1) = none := I.hok.fresh (Nat.le_succ _)
    refine ⟨.ref _, upd H (s.heap.objs.size + 1) (.lst ((sortI ns).map V.int)), I.laid (t' := s.toks) (fun b o e => sortedAll_old e) (Nat.le_succ _) ⟨?_, out.toList, e, vals_intsM h1, by simpa using he⟩, rfl, q _ hn⟩
    rw [List.length_map, sizeLine_eq]
    have := (List.mergeSort_perm ns leI).length_eq
    show (ns.mergeSort leI).length ≤ _
    omega
  · obtain ⟨u, rfl, ru⟩ := vals1 r
    obtain rfl : u = Value.ref p := ru
    obtain ⟨its, rv, pl, hz⟩ := I.list (SqL.of hp)
    have hI := strsAre_of rv
    have hlen := rv.length
    simp only [List.length_map] at hlen
    refine sorted_strs pl.isList hI (by omega) fun out ns' h1 h2 h3 => ?_
    obtain ⟨e, he⟩ := sortedAll_at s.heap its out
    have ens : ns' = sortS ss := perm_eq leS_anti (h2.trans (List.mergeSort_perm ss leS).symm) (pw_sortedS h3) (sortS_pw ss)
    subst ens
    have hn : H (s.heap.objs.size + 1) = none := I.hok.fresh (Nat.le_succ _)
    refine ⟨.ref _, upd H (s.heap.objs.size + 1) (.lst ((sortS ss).map V.str)), I.laid (t' := s.toks) (fun b o e => sortedAll_old e) (Nat.le_succ _) ⟨?_, out.toList, e, vals_strsM h1, by simpa using he⟩, rfl, q _ hn⟩
    rw [List.length_map, sizeLine_eq]
    have := (List.mergeSort_perm ss leS).length_eq
    show (ss.mergeSort leS).length ≤ _
    omega
def bSorted (xs : List M) (h : HpM) : Option M := match xs with
  | [x] => (seqL h x).bind fun ys => if ys.length < 64 then (match intsM ys with
    | some ns => some (.lst ((sortI ns).map .int))
    | none => (strsM ys).map fun ss => .lst ((sortS ss).map .str)) else none
  | _ => none
theorem intsM_len : ∀ {xs : List M} {cs : List Int}, intsM xs = some cs → cs.length = xs.length
  | [], _, e => by cases e; rfl
  | .int b :: xs, _, e => by
    obtain ⟨cs, e1, e2⟩ := Option.map_eq_some_iff.mp e
    subst e2
    simp [intsM_len e1]
  | .non :: _, _, e | .str _ :: _, _, e | .ty _ :: _, _, e | .bl _ :: _, _, e | .tup _ :: _, _, e | .lst _ :: _, _, e | .dct _ _ :: _, _, e | .ref _ :: _, _, e | .scr _ :: _, _, e => by cases e
theorem strsM_len : ∀ {xs : List M} {cs : List Str}, strsM xs = some cs → cs.length = xs.length
  | [], _, e => by cases e; rfl
  | .str b :: xs, _, e => by
    obtain ⟨cs, e1, e2⟩ := Option.map_eq_some_iff.mp e
    subst e2
    simp [strsM_len e1]
  | .non :: _, _, e | .int _ :: _, _, e | .ty _ :: _, _, e | .bl _ :: _, _, e | .tup _ :: _, _, e | .lst _ :: _, _, e | .dct _ _ :: _, _, e | .ref _ :: _, _, e | .scr _ :: _, _, e => by cases e
theorem RepAs.strs {α : Pl} {H : Hp} : ∀ {ns : List Str}, RepAs K α H (ns.map M.str) (ns.map V.str)
  | [] => rfl
  | n :: ns => ⟨_, _, rfl, rfl, RepAs.strs⟩
theorem fm_sorted : CallM K rSortedM bSorted := by
  intro α h H xs d us Q hr rs e k
  unfold bSorted at e
  split at e
  · obtain ⟨ys, e1, e⟩ := Option.bind_eq_some_iff.mp e
    split at e
    · rename_i hl
      obtain ⟨u, rfl, ru⟩ := rep1 rs
      obtain ⟨a, vs, rfl, ha, rv⟩ := seqL_rep hr ru e1
      split at e
      · rename_i ns hns
        cases e
        rw [intsM_rep hns rv] at ha
        exact .inl ⟨a, ns, rfl, ha, by rw [intsM_len hns]; exact hl, fun l hl => k _ _ (same_new hl _) (laidL hr hl RepAs.ints)⟩
      · obtain ⟨ss, e2, e3⟩ := Option.map_eq_some_iff.mp e
        subst e3
        rw [strsM_rep e2 rv] at ha
        exact .inr ⟨a, ss, rfl, ha, by rw [strsM_len e2]; exact hl, fun l hl => k _ _ (same_new hl _) (laidL hr hl RepAs.strs)⟩
    · cases e
  · cases e
end
end L2
set_option Elab.async false
set_option linter.all false
set_option maxRecDepth 100000
namespace L2
open PySem
def Ens {a : Type} (x : Option (a × HpM)) (Q : a → HpM → Prop) : Prop := ∃ y h, x = some (y, h) ∧ Q y h
def Enp {a : Type} (x : Option a) (Q : a → Prop) : Prop := ∃ y, x = some y ∧ Q y
def EB (x : M) (R : Bool → Prop) : Prop := ∃ b, x = .bl b ∧ R b
def SQ (b : FS) (Q : Out → HpM → Prop) : Out → HpM → Prop
  | .nx ρ, h => Ens (b ρ h) Q
  | o, h => Q o h
def FQ (Q : M → HpM → Prop) : Out → HpM → Prop
  | .rt d, h => Q d h
  | .nx _, h => Q .non h
  | _, _ => False
section
variable {a b : Type} {Q : a → HpM → Prop} {R : M → HpM → Prop} {S : Out → HpM → Prop} {T : Bool → HpM → Prop} {U : List M → HpM → Prop} {ρ : EnvM} {h : HpM} {m ma mb mc : FE} {mas : FA} {ta tb : FT} {sa sb : FS} {d x y : M}
theorem Ens.mono {x : Option (a × HpM)} {Q Q' : a → HpM → Prop} (e : Ens x Q) (i : ∀ y h, Q y h → Q' y h) : Ens x Q' := by obtain ⟨y, h, e, q⟩ := e; exact ⟨y, h, e, i y h q⟩
theorem Ens.ret {y : a} (q : Q y h) : Ens (some (y, h)) Q := ⟨y, h, rfl, q⟩
theorem Ens.bnd {x : Option (a × HpM)} {f : a → HpM → Option (b × HpM)} {Q : b → HpM → Prop} (e : Ens x fun y h => Ens (f y h) Q) : Ens (L2.bnd x f) Q := by
  obtain ⟨y, h, rfl, e⟩ := e; exact e
theorem Enp.map {x : Option a} (e : Enp x fun y => Q y h) : Ens (x.map (·, h)) Q := by obtain ⟨y, rfl, q⟩ := e; exact ⟨y, h, rfl, q⟩
theorem e_c (q : R d h) : Ens (mC d ρ h) R := .ret q
theorem e_var {i : Nat} {v : M} (e : ρ[i]? = some (some v)) (q : R v h) : Ens (mVar i ρ h) R := ⟨v, h, by unfold mVar; rw [e], q⟩
theorem e_nil (q : U [] h) : Ens (mNil ρ h) U := .ret q
theorem e_cons (q : Ens (ma ρ h) fun x h1 => Ens (mas ρ h1) fun xs h2 => U (x :: xs) h2) : Ens (mCons ma mas ρ h) U := .bnd (q.mono fun x h1 q => .bnd (q.mono fun xs h2 q => .ret q))
theorem e_lst (q : Ens (mas ρ h) fun xs h1 => xs.length ≤ 16777216 ∧ R (.lst xs) h1) : Ens (mLst mas ρ h) R := .bnd (q.mono fun xs h1 q => by rw [if_pos q.1]; exact .ret q.2)
theorem e_lstH (q : Ens (mas ρ h) fun xs h1 => xs.length ≤ 16777216 ∧ R (.ref h1.length) (h1 ++ [.lst xs])) : Ens (mLstH mas ρ h) R := .bnd (q.mono fun xs h1 q => by rw [if_pos q.1]; exact .ret q.2)
theorem e_op {f : M → M → HpM → Option M} (q : Ens (ma ρ h) fun x h1 => Ens (mb ρ h1) fun y h2 => Enp (f x y h2) fun d => R d h2) : Ens (mOp f ma mb ρ h) R := .bnd (q.mono fun x h1 q => .bnd (q.mono fun y h2 q => q.map))
theorem e_cb {f : List M → HpM → Option M} (q : Ens (mas ρ h) fun xs h1 => Enp (f xs h1) fun d => R d h1) : Ens (mCB f mas ρ h) R := .bnd (q.mono fun x h1 q => q.map)
theorem e_call {f : FF} (q : Ens (mas ρ h) fun xs h1 => Ens (f xs h1) R) : Ens (mCall f mas ρ h) R := .bnd q
theorem e_asB {f : Bool → Option (a × HpM)} (q : EB x fun c => Ens (f c) Q) : Ens (asB x f) Q := by obtain ⟨c, rfl, q⟩ := q; exact q
theorem e_eb {c : Bool} {R : Bool → Prop} (q : R c) : EB (.bl c) R := ⟨c, rfl, q⟩
theorem e_and (q : Ens (ma ρ h) fun x h1 => EB x fun c => if c = true then Ens (mb ρ h1) R else R (.bl false) h1) : Ens (mAnd ma mb ρ h) R := .bnd (q.mono fun x h1 q => e_asB (by
  obtain ⟨c, rfl, q⟩ := q
  refine ⟨c, rfl, ?_⟩
  cases c
  · exact .ret q
  · exact q))
theorem e_not (q : Ens (ma ρ h) fun x h1 => EB x fun c => R (.bl (!c)) h1) : Ens (mNot ma ρ h) R := .bnd (q.mono fun x h1 q => e_asB (by
  obtain ⟨c, rfl, q⟩ := q
  exact ⟨c, rfl, .ret q⟩))
theorem e_tV (q : Ens (ma ρ h) fun x h1 => EB x fun c => T c h1) : Ens (tV ma ρ h) T := .bnd (q.mono fun x h1 q => e_asB (by obtain ⟨c, rfl, q⟩ := q; exact ⟨c, rfl, .ret q⟩))
theorem e_tAnd (q : Ens (ta ρ h) fun c h1 => if c = true then Ens (tb ρ h1) T else T false h1) : Ens (tAndM ta tb ρ h) T := .bnd (q.mono fun c h1 q => by cases c; exact .ret q; exact q)
theorem e_tOr (q : Ens (ta ρ h) fun c h1 => if c = true then T true h1 else Ens (tb ρ h1) T) : Ens (tOrM ta tb ρ h) T := .bnd (q.mono fun c h1 q => by cases c; exact q; exact .ret q)
theorem e_tNot (q : Ens (ta ρ h) fun c h1 => T (!c) h1) : Ens (tNotM ta ρ h) T := .bnd (q.mono fun c h1 q => .ret q)
theorem e_tTrue (q : T true h) : Ens (tTrueM ρ h) T := .ret q
theorem e_oNo {O : Option Int → HpM → Prop} (q : O none h) : Ens (oNo ρ h) O := .ret q
theorem e_oSome {O : Option Int → HpM → Prop} (q : Ens (ma ρ h) fun x h1 => ∃ i, x = .int i ∧ O (some i) h1) : Ens (oSome ma ρ h) O := .bnd (q.mono fun x h1 q => by obtain ⟨i, rfl, q⟩ := q; exact .ret q)
theorem e_sl {f : M → Option Int → Option Int → HpM → Option M} {lo hi : FO} (q : Ens (ma ρ h) fun x h1 => Ens (lo ρ h1) fun l h2 => Ens (hi ρ h2) fun u h3 => Enp (f x l u h3) fun d => R d h3) : Ens (mSl f ma lo hi ρ h) R :=
  .bnd (q.mono fun x h1 q => .bnd (q.mono fun l h2 q => .bnd (q.mono fun u h3 q => q.map)))
theorem e_next (q : S (.nx ρ) h) : Ens (sNext ρ h) S := .ret q
theorem e_ret (q : Ens (ma ρ h) fun x h1 => S (.rt x) h1) : Ens (sRet ma ρ h) S := .bnd (q.mono fun x h1 q => .ret q)
theorem e_seq (q : Ens (sa ρ h) (SQ sb S)) : Ens (sSeq sa sb ρ h) S := .bnd (q.mono fun o h1 q => by
  cases o with
  | nx ρ' => exact q
  | bk ρ' => exact .ret q
  | ct ρ' => exact .ret q
  | rt d => exact .ret q)
theorem e_sqN (q : Ens (sb ρ h) S) : SQ sb S (.nx ρ) h := q
theorem e_sqR (q : S (.rt d) h) : SQ sb S (.rt d) h := q
theorem e_fqR (q : R d h) : FQ R (.rt d) h := q
theorem e_sif (q : Ens (ta ρ h) fun c h1 => if c = true then Ens (sa ρ h1) S else Ens (sb ρ h1) S) : Ens (sIf ta sa sb ρ h) S := .bnd (q.mono fun c h1 q => by cases c <;> exact q)
theorem e_asg {g : FG} (q : Ens (ma ρ h) fun x h1 => Ens (g x ρ h1) fun ρ' h2 => S (.nx ρ') h2) : Ens (sAsg ma g ρ h) S := .bnd (q.mono fun x h1 q => .bnd (q.mono fun ρ' h2 q => .ret q))
theorem e_nm {i : Nat} {G : EnvM → HpM → Prop} (q : G (ρ.set i (some x)) h) : Ens (gNm i x ρ h) G := .ret q
theorem e_gnil {G : EnvM → HpM → Prop} (q : G ρ h) : Ens (gsNil [] ρ h) G := .ret q
theorem e_gcons {g : FG} {gs : FGs} {xs : List M} {G : EnvM → HpM → Prop} (q : Ens (g x ρ h) fun ρ' h' => Ens (gs xs ρ' h') G) : Ens (gsCons g gs (x :: xs) ρ h) G := .bnd q
theorem e_gtp {n : Nat} {gs : FGs} {xs : List M} {G : EnvM → HpM → Prop} (e : xs.length = n) (q : Ens (gs xs ρ h) G) : Ens (gTp n gs (.tup xs) ρ h) G := by show Ens (if xs.length = n then _ else _) G; rw [if_pos e]; exact q
theorem e_gsub {o i : FE} {G : EnvM → HpM → Prop} (q : Ens (o ρ h) fun oo h1 => Ens (i ρ h1) fun ii h2 => ∃ k j xs q, oo = .ref k ∧ ii = .int j ∧ h2[k]? = some (.lst xs) ∧ ixN xs.length j = some q ∧ G ρ (h2.set k (.lst (xs.set q x)))) : Ens (gSubM o i x ρ h) G :=
  .bnd (q.mono fun oo h1 q => .bnd (q.mono fun ii h2 q => by
    obtain ⟨k, j, xs, q, rfl, rfl, e1, e2, q'⟩ := q
    exact ⟨ρ, _, by unfold onL; dsimp only; rw [e1]; dsimp only; rw [e2]; rfl, q'⟩))
theorem e_fun {n k : Nat} {ds : List M} (e : ds.length = n) (q : Ens (sa (ds.map some ++ List.replicate k none) h) (FQ R)) : Ens (mFun n k sa ds h) R := by
  unfold mFun
  rw [if_pos e]
  refine .bnd (q.mono fun o h1 q => ?_)
  cases o with
  | nx ρ' => exact .ret q
  | bk ρ' => exact q.elim
  | ct ρ' => exact q.elim
  | rt d => exact .ret q
def LQ (I : EnvM → HpM → Prop) (S : Out → HpM → Prop) : Out → HpM → Prop
  | .nx ρ, h => I ρ h
  | .ct ρ, h => I ρ h
  | .bk ρ, h => S (.nx ρ) h
  | .rt d, h => S (.rt d) h
theorem e_loop {xs : List M} {bd : M → FS} (I : Nat → EnvM → HpM → Prop) : ∀ {l : List M} {i : Nat} {ρ : EnvM} {h : HpM}, l = xs.drop i → i ≤ xs.length → I i ρ h →
    (∀ i x ρ h, xs[i]? = some x → I i ρ h → Ens (bd x ρ h) (LQ (I (i + 1)) S)) → (∀ ρ h, I xs.length ρ h → S (.nx ρ) h) → Ens (mLoop xs none bd l ρ h) S
  | [], i, ρ, h, e, hi, hI, _, hd => by
    have : i = xs.length := by
      have := congrArg List.length e
      simp at this; omega
    subst this
    unfold mLoop
    rw [if_pos (show okS xs none h from trivial)]
    exact .ret (hd ρ h hI)
  | x :: r, i, ρ, h, e, hi, hI, hs, hd => by
    have hx : xs[i]? = some x := by
      have := congrArg (fun l : List M => l[0]?) e
      simpa using this.symm
    have hr : r = xs.drop (i + 1) := by
      have := congrArg List.tail e
      simpa using this
    have hlt : i < xs.length := (List.getElem?_eq_some_iff.mp hx).1
    unfold mLoop
    rw [if_pos (show okS xs none h from trivial)]
    refine .bnd ((hs i x ρ h hx hI).mono fun o h1 q => ?_)
    cases o with
    | nx ρ' => exact e_loop I hr hlt q hs hd
    | ct ρ' => exact e_loop I hr hlt q hs hd
    | bk ρ' => exact .ret q
    | rt d => exact .ret q
theorem e_for {i : FI} {g : FG} (q : Ens (i ρ h) fun s h1 => Ens (mLoop s.1 s.2 (fun x ρ h => L2.bnd (g x ρ h) fun ρ' h' => sa ρ' h') s.1 ρ h1) S) : Ens (sFor i g sa ρ h) S := .bnd q
theorem e_body {g : FG} (q : Ens (g x ρ h) fun ρ' h' => Ens (sa ρ' h') S) : Ens (L2.bnd (g x ρ h) fun ρ' h' => sa ρ' h') S := .bnd q
theorem e_over {xs : List M} {bd : M → FS} (I : Nat → EnvM → HpM → Prop) (h0 : I 0 ρ h) (hs : ∀ i x ρ h, xs[i]? = some x → I i ρ h → Ens (bd x ρ h) (LQ (I (i + 1)) S)) (hd : ∀ ρ h, I xs.length ρ h → S (.nx ρ) h) : Ens (mLoop xs none bd xs ρ h) S :=
  e_loop I (i := 0) (by simp) (Nat.zero_le _) h0 hs hd
abbrev SI := (List M × Option Nat) → HpM → Prop
theorem e_iL {s : SI} (q : Ens (ma ρ h) fun x h1 => ∃ xs, x = .lst xs ∧ s (xs, none) h1) : Ens (iL ma ρ h) s := .bnd (q.mono fun x h1 q => by obtain ⟨xs, rfl, q⟩ := q; exact .ret q)
theorem e_iR1 {s : SI} (q : Ens (mas ρ h) fun xs h1 => ∃ j : Int, xs = [.int j] ∧ (-4611686018427387904 ≤ j ∧ j < 4611686018427387904) ∧ s ((List.range j.toNat).map fun (i : Nat) => M.int (i : Int), none) h1) : Ens (iR1 mas ρ h) s := .bnd (q.mono fun x h1 q => by
  obtain ⟨j, rfl, hj, q⟩ := q
  show Ens (if _ then _ else _) s
  rw [if_pos hj]; exact .ret q)
theorem e_iZip {s : SI} (q : Ens (mas ρ h) fun xs h1 => ∃ x y us vs, xs = [x, y] ∧ zOf x = some us ∧ zOf y = some vs ∧ s (List.zipWith (fun u v => M.tup [u, v]) us vs, none) h1) : Ens (iZip mas ρ h) s := .bnd (q.mono fun x h1 q => by
  obtain ⟨x, y, us, vs, rfl, e1, e2, q⟩ := q
  exact ⟨_, h1, by show (zOf x).bind _ = _; rw [e1]; show (zOf y).bind _ = _; rw [e2]; rfl, q⟩)
theorem e_comps {xs : List M} {g : FG} {c : FT} {e : FE} {τ : EnvM} {V : List M → HpM → Prop} (J : Nat → List M → HpM → Prop) : ∀ {l : List M} {i : Nat} {acc : List M} {h : HpM}, l = xs.drop i → i ≤ xs.length → J i acc h →
    (∀ i x acc h, xs[i]? = some x → J i acc h → Ens (g x τ h) fun τ' h1 => Ens (c τ' h1) fun t h2 => if t = true then Ens (e τ' h2) fun y h3 => J (i + 1) (acc ++ [y]) h3 else J (i + 1) acc h2) →
    (∀ acc h, J xs.length acc h → V acc h) → Ens (mComps xs none g c e τ l h) fun ys h' => V (acc ++ ys) h'
  | [], i, acc, h, e, hi, hJ, _, hd => by
    have : i = xs.length := by
      have := congrArg List.length e
      simp at this; omega
    subst this
    unfold mComps
    rw [if_pos (show okS xs none h from trivial)]
    refine .ret ?_
    rw [List.append_nil]
    exact hd acc h hJ
  | x :: r, i, acc, h, e, hi, hJ, hs, hd => by
    have hx : xs[i]? = some x := by
      have := congrArg (fun l : List M => l[0]?) e
      simpa using this.symm
    have hr : r = xs.drop (i + 1) := by
      have := congrArg List.tail e
      simpa using this
    have hlt : i < xs.length := (List.getElem?_eq_some_iff.mp hx).1
    unfold mComps
    rw [if_pos (show okS xs none h from trivial)]
    refine .bnd ((hs i x acc h hx hJ).mono fun τ' h1 q => .bnd (q.mono fun t h2 q => ?_))
    cases t with
    | false => exact e_comps J hr hlt q hs hd
    | true =>
      refine .bnd (q.mono fun y h3 q => .bnd ((e_comps J hr hlt q hs hd).mono fun ys h4 q => .ret ?_))
      simpa using q
theorem e_comp {ix : List (Option Nat)} {i : FI} {g : FG} {c : FT} {e : FE} (q : Ens (i ρ h) fun s h1 => s.1.length ≤ 16777216 ∧ Ens (mComps s.1 s.2 g c e (tauM ix ρ) s.1 h1) fun ys h2 => R (.lst ys) h2) : Ens (mComp ix i g c e ρ h) R :=
  .bnd (q.mono fun s h1 q => by rw [if_pos q.1]; exact .bnd (q.2.mono fun ys h2 q => .ret q))
theorem e_over2 {xs : List M} {g : FG} {c : FT} {e : FE} {τ : EnvM} {V : List M → HpM → Prop} (J : Nat → List M → HpM → Prop) (h0 : J 0 [] h)
    (hs : ∀ i x acc h, xs[i]? = some x → J i acc h → Ens (g x τ h) fun τ' h1 => Ens (c τ' h1) fun t h2 => if t = true then Ens (e τ' h2) fun y h3 => J (i + 1) (acc ++ [y]) h3 else J (i + 1) acc h2)
    (hd : ∀ acc h, J xs.length acc h → V acc h) : Ens (mComps xs none g c e τ xs h) V := (e_comps (V := V) J (i := 0) (acc := []) (by simp) (Nat.zero_le _) h0 hs hd).mono fun ys h q => by simpa using q
theorem e_while {c : FT} {bd : FS} (I : EnvM → HpM → Prop) (μ : EnvM → HpM → Nat) (hs : ∀ ρ h, I ρ h → Ens (c ρ h) fun t h1 => if t = true then Ens (bd ρ h1) (LQ (fun ρ' h' => I ρ' h' ∧ μ ρ' h' < μ ρ h) S) else S (.nx ρ) h1) : ∀ {N : Nat} {ρ : EnvM} {h : HpM}, I ρ h → μ ρ h < N → Ens (mWhile c bd N ρ h) S
  | 0, ρ, h, _, hN => by omega
  | N + 1, ρ, h, hI, hN => by
    unfold mWhile
    refine .bnd ((hs ρ h hI).mono fun t h1 q => ?_)
    cases t with
    | false => exact .ret q
    | true =>
      refine .bnd (q.mono fun o h2 q => ?_)
      cases o with
      | nx ρ' => exact e_while I μ hs q.1 (by have := q.2; omega)
      | ct ρ' => exact e_while I μ hs q.1 (by have := q.2; omega)
      | bk ρ' => exact .ret q
      | rt d => exact .ret q
end
section
variable {R : M → Prop} {h : HpM}
theorem p_addI {i j : Int} (q : R (.int (i + j))) : Enp (opAdd (.int i) (.int j) h) R := ⟨_, rfl, q⟩
theorem p_subI {i j : Int} (q : R (.int (i - j))) : Enp (opSub (.int i) (.int j) h) R := ⟨_, rfl, q⟩
theorem p_mulI {i j : Int} (e : (-18446744073709551616 < i ∧ i < 18446744073709551616) ∨ (-18446744073709551616 < j ∧ j < 18446744073709551616)) (q : R (.int (i * j))) : Enp (opMul (.int i) (.int j) h) R := ⟨_, if_pos e, q⟩
theorem p_mod {i j : Int} (e : 0 < j) (q : R (.int (i % j))) : Enp (opMod (.int i) (.int j) h) R := ⟨_, if_pos e, q⟩
theorem p_div {i j : Int} (e : 0 < j ∧ j < 1073741824) (q : R (.int (i / j))) : Enp (opDiv (.int i) (.int j) h) R := ⟨_, if_pos e, q⟩
theorem p_pow {i j : Int} (e : 0 ≤ j ∧ j ≤ 1000000 ∧ i.natAbs < 18446744073709551616) (q : R (.int (i ^ j.toNat))) : Enp (opPow (.int i) (.int j) h) R := ⟨_, if_pos e, q⟩
theorem p_ltI {i j : Int} (q : R (.bl (decide (i < j)))) : Enp (opLt (.int i) (.int j) h) R := ⟨_, rfl, q⟩
theorem p_gtI {i j : Int} (q : R (.bl (decide (j < i)))) : Enp (opGt (.int i) (.int j) h) R := ⟨_, rfl, q⟩
theorem p_ltS {i j : Str} (q : R (.bl (decide (i.cps.toList < j.cps.toList)))) : Enp (opLt (.str i) (.str j) h) R := ⟨_, rfl, q⟩
theorem p_eqI {i j : Int} (q : R (.bl (i == j))) : Enp (opEq (.int i) (.int j) h) R := ⟨_, rfl, q⟩
theorem p_neS {i j : Str} (q : R (.bl (!(i == j)))) : Enp (opNe (.str i) (.str j) h) R := ⟨_, rfl, q⟩
theorem p_eqB {i j : Bool} (q : R (.bl (i == j))) : Enp (opEq (.bl i) (.bl j) h) R := ⟨_, rfl, q⟩
theorem p_abs {i : Int} (q : R (.int (if i < 0 then -i else i))) : Enp (bAbs [.int i] h) R := ⟨_, rfl, q⟩
theorem p_lenL {xs : List M} (q : R (.int xs.length)) : Enp (bLen [.lst xs] h) R := ⟨_, rfl, q⟩
theorem p_lenS {z : Str} (e : z.length ≤ 16777216) (q : R (.int z.length)) : Enp (bLen [.str z] h) R := ⟨_, if_pos e, q⟩
theorem p_ixL {xs : List M} {i : Int} {d : M} (e : atI xs i = some d) (q : R d) : Enp (ixM (.lst xs) (.int i) h) R := ⟨d, e, q⟩
theorem p_ixR {xs : List M} {k : Nat} {i : Int} {d : M} (e0 : h[k]? = some (.lst xs)) (e : atI xs i = some d) (q : R d) : Enp (ixM (.ref k) (.int i) h) R := ⟨d, by show (seqR h (.ref k)).bind _ = _; rw [show seqR h (.ref k) = some xs by show (match h[k]? with | some (.lst xs) => some xs | _ => none) = some xs; rw [e0]]; exact e, q⟩
theorem p_addL {xs ys : List M} (e : xs.length + ys.length ≤ 16777216) (q : R (.lst (xs ++ ys))) : Enp (opAdd (.lst xs) (.lst ys) h) R := ⟨_, by show (if _ then _ else _) = _; rw [if_pos e], q⟩
theorem p_slL {xs : List M} {lo hi : Option Int} (q : R (.lst (cutM xs lo hi))) : Enp (slM (.lst xs) lo hi h) R := ⟨_, rfl, q⟩
theorem p_slC {ns : List Int} {lo hi : Option Int} (q : R (.lst (cutM (ns.map M.int) lo hi))) : Enp (slM (.scr ns) lo hi h) R := ⟨_, rfl, q⟩
theorem p_inst {x : M} {c : String} (e : tyM h x ≠ "") (e2 : okTy c = true) (q : R (.bl (instB (tyM h x) c))) : Enp (bInst [x, .ty c] h) R := ⟨_, if_pos ⟨e, e2⟩, q⟩
theorem p_ord {z : Str} (e : z.length = 1) (q : R (.int (z.cps.getD 0 0 : Nat))) : Enp (bOrd [.str z] h) R := ⟨_, if_pos e, q⟩
end
theorem at_mem {xs : List M} {i : Int} (h0 : 0 ≤ i) (h : i < (xs.length : Int)) : ∃ v, v ∈ xs ∧ atI xs i = some v := at_any h0 h
theorem ite_b {A B : Prop} {c : Bool} (h1 : c = true → A) (h2 : c = false → B) : if c = true then A else B := by cases c; exact h2 rfl; exact h1 rfl
theorem ite_t {A B : Prop} (h : A) : if (true = true) then A else B := h
theorem ite_f {A B : Prop} (h : B) : if (false = true) then A else B := h
end L2
set_option Elab.async false
set_option linter.all false
namespace L2
open PySem
section
variable {R : M → Prop} {h : HpM}
theorem pi_bl_bool {x : Bool} (q : R (.bl true)) : Enp (bInst [(.bl x), .ty "bool"] h) R := p_inst (by show "bool" ≠ ""; decide) (by decide) (by rw [show instB (tyM h (.bl x)) "bool" = true from (by show instB "bool" "bool" = _; decide)]; exact q)
theorem pi_int_str {x : Int} (q : R (.bl false)) : Enp (bInst [(.int x), .ty "str"] h) R := p_inst (by show "int" ≠ ""; decide) (by decide) (by rw [show instB (tyM h (.int x)) "str" = false from (by show instB "int" "str" = _; decide)]; exact q)
theorem pi_int_int {x : Int} (q : R (.bl true)) : Enp (bInst [(.int x), .ty "int"] h) R := p_inst (by show "int" ≠ ""; decide) (by decide) (by rw [show instB (tyM h (.int x)) "int" = true from (by show instB "int" "int" = _; decide)]; exact q)
theorem pi_int_bool {x : Int} (q : R (.bl false)) : Enp (bInst [(.int x), .ty "bool"] h) R := p_inst (by show "int" ≠ ""; decide) (by decide) (by rw [show instB (tyM h (.int x)) "bool" = false from (by show instB "int" "bool" = _; decide)]; exact q)
theorem pi_str_str {x : Str} (q : R (.bl true)) : Enp (bInst [(.str x), .ty "str"] h) R := p_inst (by show "str" ≠ ""; decide) (by decide) (by rw [show instB (tyM h (.str x)) "str" = true from (by show instB "str" "str" = _; decide)]; exact q)
theorem pi_str_int {x : Str} (q : R (.bl false)) : Enp (bInst [(.str x), .ty "int"] h) R := p_inst (by show "str" ≠ ""; decide) (by decide) (by rw [show instB (tyM h (.str x)) "int" = false from (by show instB "str" "int" = _; decide)]; exact q)
theorem ite_nT {A B : Prop} (h : B) : if (!true) = true then A else B := h
theorem p_eqTT (q : R (.bl true)) : Enp (opEq (.bl true) (.bl true) h) R := ⟨_, rfl, q⟩
theorem p_neTT (q : R (.bl false)) : Enp (opNe (.bl true) (.bl true) h) R := ⟨_, rfl, q⟩
theorem p_eqTF (q : R (.bl false)) : Enp (opEq (.bl true) (.bl false) h) R := ⟨_, rfl, q⟩
theorem p_neTF (q : R (.bl true)) : Enp (opNe (.bl true) (.bl false) h) R := ⟨_, rfl, q⟩
theorem ite_nF {A B : Prop} (h : A) : if (!false) = true then A else B := h
theorem p_eqFT (q : R (.bl false)) : Enp (opEq (.bl false) (.bl true) h) R := ⟨_, rfl, q⟩
theorem p_neFT (q : R (.bl true)) : Enp (opNe (.bl false) (.bl true) h) R := ⟨_, rfl, q⟩
theorem p_eqFF (q : R (.bl true)) : Enp (opEq (.bl false) (.bl false) h) R := ⟨_, rfl, q⟩
theorem p_neFF (q : R (.bl false)) : Enp (opNe (.bl false) (.bl false) h) R := ⟨_, rfl, q⟩
theorem e_lqN {I : EnvM → HpM → Prop} {S : Out → HpM → Prop} {ρ : EnvM} (q : I ρ h) : LQ I S (.nx ρ) h := q
theorem e_lqR {I : EnvM → HpM → Prop} {S : Out → HpM → Prop} {d : M} (q : S (.rt d) h) : LQ I S (.rt d) h := q
end
end L2

set_option Elab.async false
set_option linter.all false
set_option maxRecDepth 100000
set_option maxHeartbeats 4000000
namespace K02
open PySem L2
def top (i : Nat) : Stmt := PySem.Challenge.pw_webstore_k02_values_in_order.main.body.getD i (.Pass ⟨0, 0, 0, 0⟩)
abbrev s_same_sort : Stmt := top 1
abbrev s_before : Stmt := top 2
abbrev s__law_hand : Stmt := top 4
abbrev s__law_draw : Stmt := top 5
abbrev s__law_word : Stmt := top 6
abbrev s__law_value : Stmt := top 7
abbrev s__law_is_number : Stmt := top 8
abbrev s__law_ahead : Stmt := top 9
abbrev s__law_put_in : Stmt := top 10
abbrev s__law_says : Stmt := top 11
abbrev s_law : Stmt := top 12
theorem sc_same_sort : FnScope ["one", "other"] ["one", "other"] (defScope s_same_sort) := ⟨rfl, rfl, rfl, by decide +kernel, rfl, by decide +kernel, by decide +kernel⟩
theorem sc_before : FnScope ["one", "other"] ["one", "other"] (defScope s_before) := ⟨rfl, rfl, rfl, by decide +kernel, rfl, by decide +kernel, by decide +kernel⟩
theorem sc__law_hand : FnScope ["_law_script"] ["_law_script"] (defScope s__law_hand) := ⟨rfl, rfl, rfl, by decide +kernel, rfl, by decide +kernel, by decide +kernel⟩
theorem sc__law_draw : FnScope ["_law_hand_here", "_law_many", "_law_cell", "_law_once", "_law_twice", "_law_found"] ["_law_hand_here", "_law_many"] (defScope s__law_draw) := ⟨rfl, rfl, rfl, by decide +kernel, rfl, by decide +kernel, by decide +kernel⟩
theorem sc__law_value : FnScope ["_law_hand_here", "_law_far", "_law_texts", "_law_some"] ["_law_hand_here"] (defScope s__law_value) := ⟨rfl, rfl, rfl, by decide +kernel, rfl, by decide +kernel, by decide +kernel⟩
theorem sc__law_is_number : FnScope ["_law_thing"] ["_law_thing"] (defScope s__law_is_number) := ⟨rfl, rfl, rfl, by decide +kernel, rfl, by decide +kernel, by decide +kernel⟩
theorem sc__law_ahead : FnScope ["_law_one", "_law_other", "_law_sign", "_law_against"] ["_law_one", "_law_other"] (defScope s__law_ahead) := ⟨rfl, rfl, rfl, by decide +kernel, rfl, by decide +kernel, by decide +kernel⟩
theorem sc__law_put_in : FnScope ["_law_row", "_law_value_here", "_law_at"] ["_law_row", "_law_value_here"] (defScope s__law_put_in) := ⟨rfl, rfl, rfl, by decide +kernel, rfl, by decide +kernel, by decide +kernel⟩
theorem sc__law_says : FnScope ["_law_found", "_law_due"] ["_law_found", "_law_due"] (defScope s__law_says) := ⟨rfl, rfl, rfl, by decide +kernel, rfl, by decide +kernel, by decide +kernel⟩
theorem sc_law : FnScope ["_law_script", "_law_hand_here", "_law_many", "_law_values", "_law_row", "_law_one", "_law_other", "_law_numbers"] ["_law_script"] (defScope s_law) := ⟨rfl, rfl, rfl, by decide +kernel, rfl, by decide +kernel, by decide +kernel⟩
theorem q_same_sort_isinstance : NmOk (defScope s_same_sort) "isinstance" .globalImplicit := ⟨by decide +kernel, by decide +kernel, by decide +kernel, by decide +kernel⟩
theorem q_same_sort_one : NmOk (defScope s_same_sort) "one" .local := ⟨by decide +kernel, by decide +kernel, by decide +kernel, by decide +kernel⟩
theorem q_same_sort_other : NmOk (defScope s_same_sort) "other" .local := ⟨by decide +kernel, by decide +kernel, by decide +kernel, by decide +kernel⟩
theorem q_same_sort_str : NmOk (defScope s_same_sort) "str" .globalImplicit := ⟨by decide +kernel, by decide +kernel, by decide +kernel, by decide +kernel⟩
theorem q_before_isinstance : NmOk (defScope s_before) "isinstance" .globalImplicit := ⟨by decide +kernel, by decide +kernel, by decide +kernel, by decide +kernel⟩
theorem q_before_one : NmOk (defScope s_before) "one" .local := ⟨by decide +kernel, by decide +kernel, by decide +kernel, by decide +kernel⟩
theorem q_before_other : NmOk (defScope s_before) "other" .local := ⟨by decide +kernel, by decide +kernel, by decide +kernel, by decide +kernel⟩
theorem q_before_same_sort : NmOk (defScope s_before) "same_sort" .globalImplicit := ⟨by decide +kernel, by decide +kernel, by decide +kernel, by decide +kernel⟩
theorem q_before_str : NmOk (defScope s_before) "str" .globalImplicit := ⟨by decide +kernel, by decide +kernel, by decide +kernel, by decide +kernel⟩
theorem q__law_hand__law_script : NmOk (defScope s__law_hand) "_law_script" .local := ⟨by decide +kernel, by decide +kernel, by decide +kernel, by decide +kernel⟩
theorem q__law_draw__law_cell : NmOk (defScope s__law_draw) "_law_cell" .local := ⟨by decide +kernel, by decide +kernel, by decide +kernel, by decide +kernel⟩
theorem q__law_draw__law_found : NmOk (defScope s__law_draw) "_law_found" .local := ⟨by decide +kernel, by decide +kernel, by decide +kernel, by decide +kernel⟩
theorem q__law_draw__law_hand_here : NmOk (defScope s__law_draw) "_law_hand_here" .local := ⟨by decide +kernel, by decide +kernel, by decide +kernel, by decide +kernel⟩
theorem q__law_draw__law_many : NmOk (defScope s__law_draw) "_law_many" .local := ⟨by decide +kernel, by decide +kernel, by decide +kernel, by decide +kernel⟩
theorem q__law_draw__law_once : NmOk (defScope s__law_draw) "_law_once" .local := ⟨by decide +kernel, by decide +kernel, by decide +kernel, by decide +kernel⟩
theorem q__law_draw__law_twice : NmOk (defScope s__law_draw) "_law_twice" .local := ⟨by decide +kernel, by decide +kernel, by decide +kernel, by decide +kernel⟩
theorem q__law_draw_len : NmOk (defScope s__law_draw) "len" .globalImplicit := ⟨by decide +kernel, by decide +kernel, by decide +kernel, by decide +kernel⟩
theorem q__law_value__law_draw : NmOk (defScope s__law_value) "_law_draw" .globalImplicit := ⟨by decide +kernel, by decide +kernel, by decide +kernel, by decide +kernel⟩
theorem q__law_value__law_far : NmOk (defScope s__law_value) "_law_far" .local := ⟨by decide +kernel, by decide +kernel, by decide +kernel, by decide +kernel⟩
theorem q__law_value__law_hand_here : NmOk (defScope s__law_value) "_law_hand_here" .local := ⟨by decide +kernel, by decide +kernel, by decide +kernel, by decide +kernel⟩
theorem q__law_value__law_some : NmOk (defScope s__law_value) "_law_some" .local := ⟨by decide +kernel, by decide +kernel, by decide +kernel, by decide +kernel⟩
theorem q__law_value__law_texts : NmOk (defScope s__law_value) "_law_texts" .local := ⟨by decide +kernel, by decide +kernel, by decide +kernel, by decide +kernel⟩
theorem q__law_is_number__law_thing : NmOk (defScope s__law_is_number) "_law_thing" .local := ⟨by decide +kernel, by decide +kernel, by decide +kernel, by decide +kernel⟩
theorem q__law_is_number_bool : NmOk (defScope s__law_is_number) "bool" .globalImplicit := ⟨by decide +kernel, by decide +kernel, by decide +kernel, by decide +kernel⟩
theorem q__law_is_number_int : NmOk (defScope s__law_is_number) "int" .globalImplicit := ⟨by decide +kernel, by decide +kernel, by decide +kernel, by decide +kernel⟩
theorem q__law_is_number_isinstance : NmOk (defScope s__law_is_number) "isinstance" .globalImplicit := ⟨by decide +kernel, by decide +kernel, by decide +kernel, by decide +kernel⟩
theorem q__law_ahead__law_against : NmOk (defScope s__law_ahead) "_law_against" .local := ⟨by decide +kernel, by decide +kernel, by decide +kernel, by decide +kernel⟩
theorem q__law_ahead__law_is_number : NmOk (defScope s__law_ahead) "_law_is_number" .globalImplicit := ⟨by decide +kernel, by decide +kernel, by decide +kernel, by decide +kernel⟩
theorem q__law_ahead__law_one : NmOk (defScope s__law_ahead) "_law_one" .local := ⟨by decide +kernel, by decide +kernel, by decide +kernel, by decide +kernel⟩
theorem q__law_ahead__law_other : NmOk (defScope s__law_ahead) "_law_other" .local := ⟨by decide +kernel, by decide +kernel, by decide +kernel, by decide +kernel⟩
theorem q__law_ahead__law_sign : NmOk (defScope s__law_ahead) "_law_sign" .local := ⟨by decide +kernel, by decide +kernel, by decide +kernel, by decide +kernel⟩
theorem q__law_ahead_len : NmOk (defScope s__law_ahead) "len" .globalImplicit := ⟨by decide +kernel, by decide +kernel, by decide +kernel, by decide +kernel⟩
theorem q__law_ahead_ord : NmOk (defScope s__law_ahead) "ord" .globalImplicit := ⟨by decide +kernel, by decide +kernel, by decide +kernel, by decide +kernel⟩
theorem q__law_ahead_zip : NmOk (defScope s__law_ahead) "zip" .globalImplicit := ⟨by decide +kernel, by decide +kernel, by decide +kernel, by decide +kernel⟩
theorem q__law_put_in__law_at : NmOk (defScope s__law_put_in) "_law_at" .local := ⟨by decide +kernel, by decide +kernel, by decide +kernel, by decide +kernel⟩
theorem q__law_put_in__law_row : NmOk (defScope s__law_put_in) "_law_row" .local := ⟨by decide +kernel, by decide +kernel, by decide +kernel, by decide +kernel⟩
theorem q__law_put_in__law_value_here : NmOk (defScope s__law_put_in) "_law_value_here" .local := ⟨by decide +kernel, by decide +kernel, by decide +kernel, by decide +kernel⟩
theorem q__law_put_in_before : NmOk (defScope s__law_put_in) "before" .globalImplicit := ⟨by decide +kernel, by decide +kernel, by decide +kernel, by decide +kernel⟩
theorem q__law_put_in_len : NmOk (defScope s__law_put_in) "len" .globalImplicit := ⟨by decide +kernel, by decide +kernel, by decide +kernel, by decide +kernel⟩
theorem q__law_says__law_due : NmOk (defScope s__law_says) "_law_due" .local := ⟨by decide +kernel, by decide +kernel, by decide +kernel, by decide +kernel⟩
theorem q__law_says__law_found : NmOk (defScope s__law_says) "_law_found" .local := ⟨by decide +kernel, by decide +kernel, by decide +kernel, by decide +kernel⟩
theorem q__law_says_bool : NmOk (defScope s__law_says) "bool" .globalImplicit := ⟨by decide +kernel, by decide +kernel, by decide +kernel, by decide +kernel⟩
theorem q__law_says_isinstance : NmOk (defScope s__law_says) "isinstance" .globalImplicit := ⟨by decide +kernel, by decide +kernel, by decide +kernel, by decide +kernel⟩
theorem q_law__law_ahead : NmOk (defScope s_law) "_law_ahead" .globalImplicit := ⟨by decide +kernel, by decide +kernel, by decide +kernel, by decide +kernel⟩
theorem q_law__law_draw : NmOk (defScope s_law) "_law_draw" .globalImplicit := ⟨by decide +kernel, by decide +kernel, by decide +kernel, by decide +kernel⟩
theorem q_law__law_hand : NmOk (defScope s_law) "_law_hand" .globalImplicit := ⟨by decide +kernel, by decide +kernel, by decide +kernel, by decide +kernel⟩
theorem q_law__law_hand_here : NmOk (defScope s_law) "_law_hand_here" .cell := ⟨by decide +kernel, by decide +kernel, by decide +kernel, by decide +kernel⟩
theorem q_law__law_many : NmOk (defScope s_law) "_law_many" .local := ⟨by decide +kernel, by decide +kernel, by decide +kernel, by decide +kernel⟩
theorem q_law__law_numbers : NmOk (defScope s_law) "_law_numbers" .local := ⟨by decide +kernel, by decide +kernel, by decide +kernel, by decide +kernel⟩
theorem q_law__law_one : NmOk (defScope s_law) "_law_one" .local := ⟨by decide +kernel, by decide +kernel, by decide +kernel, by decide +kernel⟩
theorem q_law__law_other : NmOk (defScope s_law) "_law_other" .local := ⟨by decide +kernel, by decide +kernel, by decide +kernel, by decide +kernel⟩
theorem q_law__law_put_in : NmOk (defScope s_law) "_law_put_in" .globalImplicit := ⟨by decide +kernel, by decide +kernel, by decide +kernel, by decide +kernel⟩
theorem q_law__law_row : NmOk (defScope s_law) "_law_row" .local := ⟨by decide +kernel, by decide +kernel, by decide +kernel, by decide +kernel⟩
theorem q_law__law_says : NmOk (defScope s_law) "_law_says" .globalImplicit := ⟨by decide +kernel, by decide +kernel, by decide +kernel, by decide +kernel⟩
theorem q_law__law_script : NmOk (defScope s_law) "_law_script" .local := ⟨by decide +kernel, by decide +kernel, by decide +kernel, by decide +kernel⟩
theorem q_law__law_values : NmOk (defScope s_law) "_law_values" .local := ⟨by decide +kernel, by decide +kernel, by decide +kernel, by decide +kernel⟩
theorem q_law_before : NmOk (defScope s_law) "before" .globalImplicit := ⟨by decide +kernel, by decide +kernel, by decide +kernel, by decide +kernel⟩
theorem q_law_range : NmOk (defScope s_law) "range" .globalImplicit := ⟨by decide +kernel, by decide +kernel, by decide +kernel, by decide +kernel⟩
theorem q_law_sorted : NmOk (defScope s_law) "sorted" .globalImplicit := ⟨by decide +kernel, by decide +kernel, by decide +kernel, by decide +kernel⟩
structure Adr where
  f_same_sort : Addr
  d_same_sort : FuncData
  f_before : Addr
  d_before : FuncData
  f__law_hand : Addr
  d__law_hand : FuncData
  f__law_draw : Addr
  d__law_draw : FuncData
  f__law_word : Addr
  d__law_word : FuncData
  f__law_value : Addr
  d__law_value : FuncData
  f__law_is_number : Addr
  d__law_is_number : FuncData
  f__law_ahead : Addr
  d__law_ahead : FuncData
  f__law_put_in : Addr
  d__law_put_in : FuncData
  f__law_says : Addr
  d__law_says : FuncData
  f_law : Addr
  d_law : FuncData
structure Txt (K : PySem.W.Frag) (mg : Str → Option Value) (t : Adr) : Prop where
  F_same_sort : Fun K "same_sort" "same_sort" s_same_sort t.f_same_sort t.d_same_sort
  b_same_sort : Binds K t.d_same_sort ["one", "other"] []
  m_same_sort : mg "same_sort" = some (.ref t.f_same_sort)
  F_before : Fun K "before" "before" s_before t.f_before t.d_before
  b_before : Binds K t.d_before ["one", "other"] []
  m_before : mg "before" = some (.ref t.f_before)
  F__law_hand : Fun K "_law_hand" "_law_hand" s__law_hand t.f__law_hand t.d__law_hand
  b__law_hand : Binds K t.d__law_hand ["_law_script"] []
  m__law_hand : mg "_law_hand" = some (.ref t.f__law_hand)
  F__law_draw : Fun K "_law_draw" "_law_draw" s__law_draw t.f__law_draw t.d__law_draw
  b__law_draw : Binds K t.d__law_draw ["_law_hand_here", "_law_many"] []
  m__law_draw : mg "_law_draw" = some (.ref t.f__law_draw)
  F__law_word : Fun K "_law_word" "_law_word" s__law_word t.f__law_word t.d__law_word
  b__law_word : Binds K t.d__law_word ["_law_hand_here"] []
  m__law_word : mg "_law_word" = some (.ref t.f__law_word)
  F__law_value : Fun K "_law_value" "_law_value" s__law_value t.f__law_value t.d__law_value
  b__law_value : Binds K t.d__law_value ["_law_hand_here"] []
  m__law_value : mg "_law_value" = some (.ref t.f__law_value)
  F__law_is_number : Fun K "_law_is_number" "_law_is_number" s__law_is_number t.f__law_is_number t.d__law_is_number
  b__law_is_number : Binds K t.d__law_is_number ["_law_thing"] []
  m__law_is_number : mg "_law_is_number" = some (.ref t.f__law_is_number)
  F__law_ahead : Fun K "_law_ahead" "_law_ahead" s__law_ahead t.f__law_ahead t.d__law_ahead
  b__law_ahead : Binds K t.d__law_ahead ["_law_one", "_law_other"] []
  m__law_ahead : mg "_law_ahead" = some (.ref t.f__law_ahead)
  F__law_put_in : Fun K "_law_put_in" "_law_put_in" s__law_put_in t.f__law_put_in t.d__law_put_in
  b__law_put_in : Binds K t.d__law_put_in ["_law_row", "_law_value_here"] []
  m__law_put_in : mg "_law_put_in" = some (.ref t.f__law_put_in)
  F__law_says : Fun K "_law_says" "_law_says" s__law_says t.f__law_says t.d__law_says
  b__law_says : Binds K t.d__law_says ["_law_found", "_law_due"] []
  m__law_says : mg "_law_says" = some (.ref t.f__law_says)
  F_law : Fun K "law" "law" s_law t.f_law t.d_law
  b_law : Binds K t.d_law ["_law_script"] []
  m_law : mg "law" = some (.ref t.f_law)
  z_abs : mg "abs" = none
  z_bool : mg "bool" = none
  z_int : mg "int" = none
  z_isinstance : mg "isinstance" = none
  z_len : mg "len" = none
  z_ord : mg "ord" = none
  z_range : mg "range" = none
  z_sorted : mg "sorted" = none
  z_str : mg "str" = none
  z_zip : mg "zip" = none
noncomputable def b_same_sort : FS :=
  (sRet (mOp opEq (mCB bInst (mCons (mVar 0) (mCons (mC (.ty "str")) mNil))) (mCB bInst (mCons (mVar 1) (mCons (mC (.ty "str")) mNil)))))
noncomputable def m_same_sort : FF := mFun 2 0 b_same_sort
noncomputable def b_before : FS :=
  (sSeq (sIf (tV (mCall m_same_sort (mCons (mVar 0) (mCons (mVar 1) mNil)))) (sRet (mOp opLt (mVar 0) (mVar 1))) sNext)
  (sRet (mCB bInst (mCons (mVar 1) (mCons (mC (.ty "str")) mNil)))))
noncomputable def m_before : FF := mFun 2 0 b_before
noncomputable def b__law_hand : FS :=
  (sRet (mLstH (mCons (mComp [none] (iL (mSl slM (mVar 0) oNo (oSome (mC (.int 63))))) (gNm 0) tTrueM (mCB bAbs (mCons (mVar 0) mNil))) (mCons (mC (.int 0)) (mCons (mC (.int 0)) (mCons (mC (.int 0)) mNil))))))
noncomputable def m__law_hand : FF := mFun 1 0 b__law_hand
noncomputable def b__law_draw : FS :=
  (sSeq (sAsg (mOp opAdd (mOp ixM (mVar 0) (mC (.int 3))) (mC (.int 1))) (gSubM (mVar 0) (mC (.int 3))))
  (sSeq (sIf (tV (mOp opEq (mOp ixM (mVar 0) (mC (.int 2))) (mC (.int 0)))) (sSeq (sAsg (mC (.int 0)) (gNm 2))
  (sSeq (sIf (tV (mOp opGt (mCB bLen (mCons (mOp ixM (mVar 0) (mC (.int 0))) mNil)) (mC (.int 0)))) (sAsg (mOp ixM (mOp ixM (mVar 0) (mC (.int 0))) (mOp opMod (mOp ixM (mVar 0) (mC (.int 1))) (mCB bLen (mCons (mOp ixM (mVar 0) (mC (.int 0))) mNil)))) (gNm 2)) sNext)
  (sSeq (sAsg (mOp opAdd (mOp ixM (mVar 0) (mC (.int 1))) (mC (.int 1))) (gSubM (mVar 0) (mC (.int 1))))
  (sSeq (sIf (tOrM (tV (mOp opLt (mVar 2) (mOp opPow (mC (.int 10)) (mC (.int 18))))) (tV (mOp opGt (mOp ixM (mVar 0) (mC (.int 1))) (mCB bLen (mCons (mOp ixM (mVar 0) (mC (.int 0))) mNil))))) (sSeq (sAsg (mOp opAdd (mOp opAdd (mOp opMod (mVar 2) (mC (.int 2147483629))) (mOp opMul (mC (.int 7919)) (mOp ixM (mVar 0) (mC (.int 3))))) (mC (.int 11))) (gNm 3))
  (sSeq (sAsg (mOp opMod (mOp opMul (mVar 3) (mOp opAdd (mC (.int 48271)) (mOp opMul (mC (.int 2)) (mOp ixM (mVar 0) (mC (.int 3)))))) (mC (.int 2147483647))) (gNm 3))
  (sSeq (sAsg (mOp opMod (mOp opAdd (mOp opMul (mVar 3) (mOp opAdd (mOp opMod (mVar 3) (mC (.int 39373))) (mOp ixM (mVar 0) (mC (.int 3))))) (mOp opMul (mC (.int 31)) (mOp ixM (mVar 0) (mC (.int 3))))) (mC (.int 1999999973))) (gNm 4))
  (sRet (mOp opMod (mOp opDiv (mVar 4) (mC (.int 7))) (mVar 1)))))) sNext)
  (sAsg (mVar 2) (gSubM (mVar 0) (mC (.int 2)))))))) sNext)
  (sSeq (sAsg (mOp opMod (mOp ixM (mVar 0) (mC (.int 2))) (mVar 1)) (gNm 5))
  (sSeq (sAsg (mOp opDiv (mOp ixM (mVar 0) (mC (.int 2))) (mVar 1)) (gSubM (mVar 0) (mC (.int 2))))
  (sRet (mVar 5))))))
noncomputable def m__law_draw : FF := mFun 2 4 b__law_draw
noncomputable def b__law_value : FS :=
  (sSeq (sAsg (mOp ixM (mLst (mCons (mOp opSub (mOp opPow (mC (.int 10)) (mC (.int 12))) (mC (.int 1))) (mCons (mOp opSub (mC (.int 1)) (mOp opPow (mC (.int 10)) (mC (.int 12)))) (mCons (mOp opAdd (mOp opPow (mC (.int 10)) (mC (.int 11))) (mCall m__law_draw (mCons (mVar 0) (mCons (mOp opPow (mC (.int 10)) (mC (.int 6))) mNil)))) mNil)))) (mCall m__law_draw (mCons (mVar 0) (mCons (mC (.int 3)) mNil)))) (gNm 1))
  (sSeq (sAsg (mLst (mCons (mC (.str "")) (mCons (mC (.str "b")) (mCons (mC (.str "aa")) (mCons (mC (.str "B")) (mCons (mC (.str "ab c")) (mCons (mC (.str "12")) (mCons (mC (.str "-3")) (mCons (mC (.str "~")) (mCons (mC (.str " ")) (mCons (mC (.str "a")) (mCons (mC (.str "zzzzzzzzzzzzzzzzzzzz")) (mCons (mC (.str "0")) mNil))))))))))))) (gNm 2))
  (sSeq (sAsg (mLst (mCons (mCall m__law_draw (mCons (mVar 0) (mCons (mC (.int 5)) mNil))) (mCons (mOp opSub (mCall m__law_draw (mCons (mVar 0) (mCons (mC (.int 2001)) mNil))) (mC (.int 1000))) (mCons (mVar 1) (mCons (mOp ixM (mVar 2) (mCall m__law_draw (mCons (mVar 0) (mCons (mC (.int 12)) mNil)))) mNil))))) (gNm 3))
  (sRet (mOp ixM (mVar 3) (mOp ixM (mLst (mCons (mC (.int 0)) (mCons (mC (.int 1)) (mCons (mC (.int 2)) (mCons (mC (.int 3)) (mCons (mC (.int 3)) mNil)))))) (mCall m__law_draw (mCons (mVar 0) (mCons (mC (.int 5)) mNil)))))))))
noncomputable def m__law_value : FF := mFun 1 3 b__law_value
noncomputable def b__law_is_number : FS :=
  (sRet (mAnd (mCB bInst (mCons (mVar 0) (mCons (mC (.ty "int")) mNil))) (mNot (mCB bInst (mCons (mVar 0) (mCons (mC (.ty "bool")) mNil))))))
noncomputable def m__law_is_number : FF := mFun 1 0 b__law_is_number
noncomputable def b__law_ahead : FS :=
  (sSeq (sIf (tV (mOp opNe (mCall m__law_is_number (mCons (mVar 0) mNil)) (mCall m__law_is_number (mCons (mVar 1) mNil)))) (sRet (mCall m__law_is_number (mCons (mVar 0) mNil))) sNext)
  (sSeq (sIf (tV (mCall m__law_is_number (mCons (mVar 0) mNil))) (sRet (mOp opGt (mOp opSub (mVar 1) (mVar 0)) (mC (.int 0)))) sNext)
  (sSeq (sFor (iZip (mCons (mVar 0) (mCons (mVar 1) mNil))) (gTp 2 (gsCons (gNm 2) (gsCons (gNm 3) gsNil))) (sIf (tV (mOp opNe (mVar 2) (mVar 3))) (sRet (mOp opLt (mCB bOrd (mCons (mVar 2) mNil)) (mCB bOrd (mCons (mVar 3) mNil)))) sNext))
  (sRet (mOp opLt (mCB bLen (mCons (mVar 0) mNil)) (mCB bLen (mCons (mVar 1) mNil)))))))
noncomputable def m__law_ahead : FF := mFun 2 2 b__law_ahead
noncomputable def b__law_put_in : FS :=
  (sSeq (sAsg (mC (.int 0)) (gNm 2))
  (sSeq (mWhile (tAndM (tV (mOp opLt (mVar 2) (mCB bLen (mCons (mVar 0) mNil)))) (tNotM (tV (mCall m_before (mCons (mVar 1) (mCons (mOp ixM (mVar 0) (mVar 2)) mNil)))))) (sAsg (mOp opAdd (mVar 2) (mC (.int 1))) (gNm 2)) 1000000)
  (sRet (mOp opAdd (mOp opAdd (mSl slM (mVar 0) oNo (oSome (mVar 2))) (mLst (mCons (mVar 1) mNil))) (mSl slM (mVar 0) (oSome (mVar 2)) oNo)))))
noncomputable def m__law_put_in : FF := mFun 2 1 b__law_put_in
noncomputable def b__law_says : FS :=
  (sRet (mAnd (mCB bInst (mCons (mVar 0) (mCons (mC (.ty "bool")) mNil))) (mOp opEq (mVar 0) (mVar 1))))
noncomputable def m__law_says : FF := mFun 2 0 b__law_says
noncomputable def b_law : FS :=
  (sSeq (sAsg (mCall m__law_hand (mCons (mVar 0) mNil)) (gNm 1))
  (sSeq (sAsg (mOp opAdd (mC (.int 2)) (mCall m__law_draw (mCons (mVar 1) (mCons (mC (.int 7)) mNil)))) (gNm 2))
  (sSeq (sIf (tV (mOp opEq (mCall m__law_draw (mCons (mVar 1) (mCons (mC (.int 8)) mNil))) (mC (.int 0)))) (sAsg (mC (.int 20)) (gNm 2)) sNext)
  (sSeq (sAsg (mComp [none, some 1] (iR1 (mCons (mVar 2) mNil)) (gNm 0) tTrueM (mCall m__law_value (mCons (mVar 1) mNil))) (gNm 3))
  (sSeq (sAsg (mLst mNil) (gNm 4))
  (sSeq (sFor (iL (mVar 3)) (gNm 5) (sSeq (sFor (iL (mOp opAdd (mVar 3) (mLst (mCons (mC (.int 0)) (mCons (mC (.str "")) (mCons (mC (.str "0")) mNil)))))) (gNm 6) (sSeq (sIf (tNotM (tV (mCall m__law_says (mCons (mCall m_before (mCons (mVar 5) (mCons (mVar 6) mNil))) (mCons (mCall m__law_ahead (mCons (mVar 5) (mCons (mVar 6) mNil))) mNil))))) (sRet (mC (.bl false))) sNext)
  (sIf (tNotM (tV (mCall m__law_says (mCons (mCall m_before (mCons (mVar 6) (mCons (mVar 5) mNil))) (mCons (mCall m__law_ahead (mCons (mVar 6) (mCons (mVar 5) mNil))) mNil))))) (sRet (mC (.bl false))) sNext)))
  (sAsg (mCall m__law_put_in (mCons (mVar 4) (mCons (mVar 5) mNil))) (gNm 4))))
  (sSeq (sAsg (mCB bSorted (mCons (mComp [none] (iL (mVar 3)) (gNm 0) (tV (mCall m__law_is_number (mCons (mVar 0) mNil))) (mVar 0)) mNil)) (gNm 7))
  (sRet (mOp opEq (mVar 4) (mOp opAdd (mVar 7) (mCB bSorted (mCons (mComp [none] (iL (mVar 3)) (gNm 0) (tNotM (tV (mCall m__law_is_number (mCons (mVar 0) mNil)))) (mVar 0)) mNil))))))))))))
noncomputable def m_law : FF := mFun 1 7 b_law
end K02
set_option Elab.async false
set_option linter.all false
set_option maxRecDepth 100000
set_option maxHeartbeats 8000000
namespace K02
open PySem L2
section
variable {P : Program} {w : World} {K : PySem.W.Frag} {mg : Str → Option Value} {base : Heap} {t : Adr}
theorem ok_same_sort (T : Txt K mg t) : FnOk P w K mg base CX0 1 t.f_same_sort t.d_same_sort ["one", "other"] (spM K m_same_sort) := by
  refine T.F_same_sort.okM (k := 0) sc_same_sort rfl fun cdv A outer s H E hr => ?_
  unfold b_same_sort
  conv => arg 2; whnf
  with_reducible refine' mss_one ?d1
  case d1 =>
   with_reducible refine' ms_ret ?d2
   case d2 =>
    with_reducible refine' me_cmp ?d3 ?d4 ?d5 ?d6 ?d7
    case d3 => exact (op_eqK (hu150 hr))
    case d4 => exact fm_eq
    case d5 =>
     with_reducible refine' me_CB ?d8 ?d9 ?d10 ?d11 ?d12 ?d13 ?d14 ?d15
     case d8 => exact call_instM
     case d9 => exact fm_inst
     case d10 => exact q_same_sort_isinstance
     case d11 => exact T.z_isinstance
     case d12 => exact PyProof.Rows.boot_isinstance
     case d13 =>
      with_reducible refine' ma_cons ?d16 ?d17 ?d18
      case d16 =>
       with_reducible refine' me_var ?d19
       case d19 => exact (pvk 0 q_same_sort_one (by rfl) (by rfl))
      case d17 =>
       with_reducible refine' ma_cons ?d20 ?d21 ?d22
       case d20 =>
        with_reducible refine' me_C ?d23 ?d24
        case d23 =>
         with_reducible refine' pe_bltnk (v := .ty "str") ?d25 ?d26 ?d27 ?d28
         case d25 => exact q_same_sort_str
         case d26 => exact T.z_str
         case d27 => rfl
         case d28 => exact rfl
        case d24 => exact (fun _ _ => rfl)
       case d21 => exact ma_nil
       case d22 => rfl
      case d18 => rfl
     case d14 => rfl
     case d15 => rfl
    case d6 =>
     with_reducible refine' me_CB ?d29 ?d30 ?d31 ?d32 ?d33 ?d34 ?d35 ?d36
     case d29 => exact call_instM
     case d30 => exact fm_inst
     case d31 => exact q_same_sort_isinstance
     case d32 => exact T.z_isinstance
     case d33 => exact PyProof.Rows.boot_isinstance
     case d34 =>
      with_reducible refine' ma_cons ?d37 ?d38 ?d39
      case d37 =>
       with_reducible refine' me_var ?d40
       case d40 => exact (pvk 1 q_same_sort_other (by rfl) (by rfl))
      case d38 =>
       with_reducible refine' ma_cons ?d41 ?d42 ?d43
       case d41 =>
        with_reducible refine' me_C ?d44 ?d45
        case d44 =>
         with_reducible refine' pe_bltnk (v := .ty "str") ?d46 ?d47 ?d48 ?d49
         case d46 => exact q_same_sort_str
         case d47 => exact T.z_str
         case d48 => rfl
         case d49 => exact rfl
        case d45 => exact (fun _ _ => rfl)
       case d42 => exact ma_nil
       case d43 => rfl
      case d39 => rfl
     case d35 => rfl
     case d36 => rfl
    case d7 => exact (nomark _)
theorem ok_before (T : Txt K mg t) : FnOk P w K mg base CX0 2 t.f_before t.d_before ["one", "other"] (spM K m_before) := by
  have G_same_sort := ok_same_sort (P := P) (w := w) (base := base) T
  refine T.F_before.okM (k := 1) sc_before rfl fun cdv A outer s H E hr => ?_
  unfold b_before
  conv => arg 2; whnf
  with_reducible refine' mss_cons ?d50 ?d51
  case d50 =>
   with_reducible refine' ms_if ?d52 ?d53 ?d54
   case d52 =>
    with_reducible refine' mt_val ?d55 ?d56
    case d55 =>
     with_reducible refine' me_call ?d57 ?d58 ?d59 ?d60 ?d61 ?d62 ?d63 ?d64 ?d65 ?d66
     case d57 => exact G_same_sort
     case d58 => exact (hr.mono (by omega))
     case d59 => exact q_before_same_sort
     case d60 => exact T.m_same_sort
     case d61 => exact T.F_same_sort.kp
     case d62 => exact T.b_same_sort
     case d63 => exact pass0
     case d64 =>
      with_reducible refine' ma_cons ?d67 ?d68 ?d69
      case d67 =>
       with_reducible refine' me_var ?d70
       case d70 => exact (pvk 0 q_before_one (by rfl) (by rfl))
      case d68 =>
       with_reducible refine' ma_cons ?d71 ?d72 ?d73
       case d71 =>
        with_reducible refine' me_var ?d74
        case d74 => exact (pvk 1 q_before_other (by rfl) (by rfl))
       case d72 => exact ma_nil
       case d73 => rfl
      case d69 => rfl
     case d65 => rfl
     case d66 => rfl
    case d56 => (intro _; rfl)
   case d53 =>
    with_reducible refine' mss_one ?d75
    case d75 =>
     with_reducible refine' ms_ret ?d76
     case d76 =>
      with_reducible refine' me_cmp ?d77 ?d78 ?d79 ?d80 ?d81
      case d77 => exact op_ltA
      case d78 => exact fm_lt
      case d79 =>
       with_reducible refine' me_var ?d82
       case d82 => exact (pvk 0 q_before_one (by rfl) (by rfl))
      case d80 =>
       with_reducible refine' me_var ?d83
       case d83 => exact (pvk 1 q_before_other (by rfl) (by rfl))
      case d81 => exact (nomark _)
   case d54 => exact mss_nil
  case d51 =>
   with_reducible refine' mss_one ?d84
   case d84 =>
    with_reducible refine' ms_ret ?d85
    case d85 =>
     with_reducible refine' me_CB ?d86 ?d87 ?d88 ?d89 ?d90 ?d91 ?d92 ?d93
     case d86 => exact call_instM
     case d87 => exact fm_inst
     case d88 => exact q_before_isinstance
     case d89 => exact T.z_isinstance
     case d90 => exact PyProof.Rows.boot_isinstance
     case d91 =>
      with_reducible refine' ma_cons ?d94 ?d95 ?d96
      case d94 =>
       with_reducible refine' me_var ?d97
       case d97 => exact (pvk 1 q_before_other (by rfl) (by rfl))
      case d95 =>
       with_reducible refine' ma_cons ?d98 ?d99 ?d100
       case d98 =>
        with_reducible refine' me_C ?d101 ?d102
        case d101 =>
         with_reducible refine' pe_bltnk (v := .ty "str") ?d103 ?d104 ?d105 ?d106
         case d103 => exact q_before_str
         case d104 => exact T.z_str
         case d105 => rfl
         case d106 => exact rfl
        case d102 => exact (fun _ _ => rfl)
       case d99 => exact ma_nil
       case d100 => rfl
      case d96 => rfl
     case d92 => rfl
     case d93 => rfl
theorem ok__law_hand (T : Txt K mg t) : FnOk P w K mg base CX0 1 t.f__law_hand t.d__law_hand ["_law_script"] (spM K m__law_hand) := by
  refine T.F__law_hand.okM (k := 0) sc__law_hand rfl fun cdv A outer s H E hr => ?_
  unfold b__law_hand
  conv => arg 2; whnf
  with_reducible refine' mss_one ?d107
  case d107 =>
   with_reducible refine' ms_ret ?d108
   case d108 =>
    with_reducible refine' me_lstH ?d109
    case d109 =>
     with_reducible refine' ma_cons ?d110 ?d111 ?d112
     case d110 =>
      with_reducible refine' me_comp (N' := ["_law_cell"]) (ix := [none]) ?d113 ?d114 ?d115 ?d116 ?d117 ?d118 ?d119 ?d120
      case d113 => exact ⟨rfl, by decide +kernel, by decide +kernel, comp_free _ _ rfl, rfl, comp_ix _ _ _ _ rfl⟩
      case d114 => exact rfl
      case d115 =>
       with_reducible refine' cg_name ?d121
       case d121 => exact rfl
      case d116 =>
       with_reducible refine' mi_list ?d122
       case d122 =>
        with_reducible refine' me_slice ?d123 ?d124 ?d125 ?d126 ?d127
        case d123 => exact sl_M
        case d124 => exact fm_sl
        case d125 =>
         with_reducible refine' me_var ?d128
         case d128 => exact (pvk 0 q__law_hand__law_script (by rfl) (by rfl))
        case d126 => exact mo_none
        case d127 =>
         with_reducible refine' mo_some ?d129
         case d129 => exact me_int
      case d117 =>
       intro _ _ _ _
       exact (pgo (i := 0) ⟨by decide +kernel, by decide +kernel, by decide +kernel, by decide +kernel⟩ (show List.Nodup (["_law_cell"] : List Str) from by decide +kernel) (by rfl))
      case d118 =>
       intro _ _ _ _
       exact mts_nil
      case d119 =>
       intro _ _ _ _
       with_reducible refine' me_CB ?d130 ?d131 ?d132 ?d133 ?d134 ?d135 ?d136 ?d137
       case d130 => exact call_abs
       case d131 => exact fm_abs
       case d132 => exact (NmOk.glob ⟨by decide +kernel, by decide +kernel, by decide +kernel, by decide +kernel⟩)
       case d133 => exact T.z_abs
       case d134 => exact PyProof.Rows.Boot.abs
       case d135 =>
        with_reducible refine' ma_cons ?d138 ?d139 ?d140
        case d138 =>
         with_reducible refine' me_var ?d141
         case d141 => exact (pvk 0 (NmOk.own ⟨by decide +kernel, by decide +kernel, by decide +kernel, by decide +kernel⟩) (by rfl) (by rfl))
        case d139 => exact ma_nil
        case d140 => rfl
       case d136 => rfl
       case d137 => rfl
      case d120 => (intro _; rfl)
     case d111 =>
      with_reducible refine' ma_cons ?d142 ?d143 ?d144
      case d142 => exact me_int
      case d143 =>
       with_reducible refine' ma_cons ?d145 ?d146 ?d147
       case d145 => exact me_int
       case d146 =>
        with_reducible refine' ma_cons ?d148 ?d149 ?d150
        case d148 => exact me_int
        case d149 => exact ma_nil
        case d150 => rfl
       case d147 => rfl
      case d144 => rfl
     case d112 => rfl
theorem ok__law_draw (T : Txt K mg t) : FnOk P w K mg base CX0 1 t.f__law_draw t.d__law_draw ["_law_hand_here", "_law_many"] (spM K m__law_draw) := by
  refine T.F__law_draw.okM (k := 0) sc__law_draw rfl fun cdv A outer s H E hr => ?_
  unfold b__law_draw
  conv => arg 2; whnf
  with_reducible refine' mss_cons ?d151 ?d152
  case d151 =>
   with_reducible refine' ms_asg ?d153 ?d154 ?d155 ?d156 ?d157
   case d153 =>
    with_reducible refine' me_op ?d158 ?d159 ?d160 ?d161
    case d158 => exact op_addM
    case d159 => exact fm_add
    case d160 =>
     with_reducible refine' me_ix ?d162 ?d163 ?d164 ?d165 ?d166
     case d162 => exact ix_seq
     case d163 => exact fm_ix
     case d164 =>
      with_reducible refine' me_var ?d167
      case d167 => exact (pvk 0 q__law_draw__law_hand_here (by rfl) (by rfl))
     case d165 => exact me_int
     case d166 => exact (fun _ _ => rfl)
    case d161 => exact me_int
   case d154 =>
    with_reducible refine' mg_sub ?d168 ?d169 ?d170
    case d168 =>
     with_reducible refine' me_var ?d171
     case d171 => exact (pvk 0 q__law_draw__law_hand_here (by rfl) (by rfl))
    case d169 => exact me_int
    case d170 => (intro _; rfl)
   case d155 => rfl
   case d156 => rfl
   case d157 => rfl
  case d152 =>
   with_reducible refine' mss_cons ?d172 ?d173
   case d172 =>
    with_reducible refine' ms_if ?d174 ?d175 ?d176
    case d174 =>
     with_reducible refine' mt_cmp ?d177 ?d178 ?d179 ?d180 ?d181
     case d177 => exact (op_eqK (hu150 hr))
     case d178 => exact fm_eq
     case d179 =>
      with_reducible refine' me_ix ?d182 ?d183 ?d184 ?d185 ?d186
      case d182 => exact ix_seq
      case d183 => exact fm_ix
      case d184 =>
       with_reducible refine' me_var ?d187
       case d187 => exact (pvk 0 q__law_draw__law_hand_here (by rfl) (by rfl))
      case d185 => exact me_int
      case d186 => exact (fun _ _ => rfl)
     case d180 => exact me_int
     case d181 => exact (nomark _)
    case d175 =>
     with_reducible refine' mss_cons ?d188 ?d189
     case d188 =>
      with_reducible refine' ms_set (i := 2) ?d190 ?d191 ?d192 ?d193 ?d194 ?d195
      case d190 => exact sc__law_draw.nd
      case d191 => exact rfl
      case d192 => exact (Or.inl q__law_draw__law_cell.lk)
      case d193 => exact me_int
      case d194 => rfl
      case d195 => rfl
     case d189 =>
      with_reducible refine' mss_cons ?d196 ?d197
      case d196 =>
       with_reducible refine' ms_if ?d198 ?d199 ?d200
       case d198 =>
        with_reducible refine' mt_cmp ?d201 ?d202 ?d203 ?d204 ?d205
        case d201 => exact op_gtA
        case d202 => exact fm_gt
        case d203 =>
         with_reducible refine' me_CB ?d206 ?d207 ?d208 ?d209 ?d210 ?d211 ?d212 ?d213
         case d206 => exact call_lenM
         case d207 => exact fm_len
         case d208 => exact q__law_draw_len
         case d209 => exact T.z_len
         case d210 => exact PySem.boot_len
         case d211 =>
          with_reducible refine' ma_cons ?d214 ?d215 ?d216
          case d214 =>
           with_reducible refine' me_ix ?d217 ?d218 ?d219 ?d220 ?d221
           case d217 => exact ix_seq
           case d218 => exact fm_ix
           case d219 =>
            with_reducible refine' me_var ?d222
            case d222 => exact (pvk 0 q__law_draw__law_hand_here (by rfl) (by rfl))
           case d220 => exact me_int
           case d221 => exact (fun _ _ => rfl)
          case d215 => exact ma_nil
          case d216 => rfl
         case d212 => rfl
         case d213 => rfl
        case d204 => exact me_int
        case d205 => exact (nomark _)
       case d199 =>
        with_reducible refine' mss_one ?d223
        case d223 =>
         with_reducible refine' ms_set (i := 2) ?d224 ?d225 ?d226 ?d227 ?d228 ?d229
         case d224 => exact sc__law_draw.nd
         case d225 => exact rfl
         case d226 => exact (Or.inl q__law_draw__law_cell.lk)
         case d227 =>
          with_reducible refine' me_ix ?d230 ?d231 ?d232 ?d233 ?d234
          case d230 => exact ix_seq
          case d231 => exact fm_ix
          case d232 =>
           with_reducible refine' me_ix ?d235 ?d236 ?d237 ?d238 ?d239
           case d235 => exact ix_seq
           case d236 => exact fm_ix
           case d237 =>
            with_reducible refine' me_var ?d240
            case d240 => exact (pvk 0 q__law_draw__law_hand_here (by rfl) (by rfl))
           case d238 => exact me_int
           case d239 => exact (fun _ _ => rfl)
          case d233 =>
           with_reducible refine' me_op ?d241 ?d242 ?d243 ?d244
           case d241 => exact op_mod
           case d242 => exact fm_mod
           case d243 =>
            with_reducible refine' me_ix ?d245 ?d246 ?d247 ?d248 ?d249
            case d245 => exact ix_seq
            case d246 => exact fm_ix
            case d247 =>
             with_reducible refine' me_var ?d250
             case d250 => exact (pvk 0 q__law_draw__law_hand_here (by rfl) (by rfl))
            case d248 => exact me_int
            case d249 => exact (fun _ _ => rfl)
           case d244 =>
            with_reducible refine' me_CB ?d251 ?d252 ?d253 ?d254 ?d255 ?d256 ?d257 ?d258
            case d251 => exact call_lenM
            case d252 => exact fm_len
            case d253 => exact q__law_draw_len
            case d254 => exact T.z_len
            case d255 => exact PySem.boot_len
            case d256 =>
             with_reducible refine' ma_cons ?d259 ?d260 ?d261
             case d259 =>
              with_reducible refine' me_ix ?d262 ?d263 ?d264 ?d265 ?d266
              case d262 => exact ix_seq
              case d263 => exact fm_ix
              case d264 =>
               with_reducible refine' me_var ?d267
               case d267 => exact (pvk 0 q__law_draw__law_hand_here (by rfl) (by rfl))
              case d265 => exact me_int
              case d266 => exact (fun _ _ => rfl)
             case d260 => exact ma_nil
             case d261 => rfl
            case d257 => rfl
            case d258 => rfl
          case d234 => exact (fun _ _ => rfl)
         case d228 => rfl
         case d229 => rfl
       case d200 => exact mss_nil
      case d197 =>
       with_reducible refine' mss_cons ?d268 ?d269
       case d268 =>
        with_reducible refine' ms_asg ?d270 ?d271 ?d272 ?d273 ?d274
        case d270 =>
         with_reducible refine' me_op ?d275 ?d276 ?d277 ?d278
         case d275 => exact op_addM
         case d276 => exact fm_add
         case d277 =>
          with_reducible refine' me_ix ?d279 ?d280 ?d281 ?d282 ?d283
          case d279 => exact ix_seq
          case d280 => exact fm_ix
          case d281 =>
           with_reducible refine' me_var ?d284
           case d284 => exact (pvk 0 q__law_draw__law_hand_here (by rfl) (by rfl))
          case d282 => exact me_int
          case d283 => exact (fun _ _ => rfl)
         case d278 => exact me_int
        case d271 =>
         with_reducible refine' mg_sub ?d285 ?d286 ?d287
         case d285 =>
          with_reducible refine' me_var ?d288
          case d288 => exact (pvk 0 q__law_draw__law_hand_here (by rfl) (by rfl))
         case d286 => exact me_int
         case d287 => (intro _; rfl)
        case d272 => rfl
        case d273 => rfl
        case d274 => rfl
       case d269 =>
        with_reducible refine' mss_cons ?d289 ?d290
        case d289 =>
         with_reducible refine' ms_if ?d291 ?d292 ?d293
         case d291 =>
          with_reducible refine' PW.pt ?d294
          case d294 =>
           with_reducible refine' mw_or ?d295 ?d296
           case d295 =>
            with_reducible refine' mt_cmp ?d297 ?d298 ?d299 ?d300 ?d301
            case d297 => exact op_ltA
            case d298 => exact fm_lt
            case d299 =>
             with_reducible refine' me_var ?d302
             case d302 => exact (pvk 2 q__law_draw__law_cell (by rfl) (by rfl))
            case d300 =>
             with_reducible refine' me_op ?d303 ?d304 ?d305 ?d306
             case d303 => exact op_pow
             case d304 => exact fm_pow
             case d305 => exact me_int
             case d306 => exact me_int
            case d301 => exact (nomark _)
           case d296 =>
            with_reducible refine' mw_or1 ?d307
            case d307 =>
             with_reducible refine' mt_cmp ?d308 ?d309 ?d310 ?d311 ?d312
             case d308 => exact op_gtA
             case d309 => exact fm_gt
             case d310 =>
              with_reducible refine' me_ix ?d313 ?d314 ?d315 ?d316 ?d317
              case d313 => exact ix_seq
              case d314 => exact fm_ix
              case d315 =>
               with_reducible refine' me_var ?d318
               case d318 => exact (pvk 0 q__law_draw__law_hand_here (by rfl) (by rfl))
              case d316 => exact me_int
              case d317 => exact (fun _ _ => rfl)
             case d311 =>
              with_reducible refine' me_CB ?d319 ?d320 ?d321 ?d322 ?d323 ?d324 ?d325 ?d326
              case d319 => exact call_lenM
              case d320 => exact fm_len
              case d321 => exact q__law_draw_len
              case d322 => exact T.z_len
              case d323 => exact PySem.boot_len
              case d324 =>
               with_reducible refine' ma_cons ?d327 ?d328 ?d329
               case d327 =>
                with_reducible refine' me_ix ?d330 ?d331 ?d332 ?d333 ?d334
                case d330 => exact ix_seq
                case d331 => exact fm_ix
                case d332 =>
                 with_reducible refine' me_var ?d335
                 case d335 => exact (pvk 0 q__law_draw__law_hand_here (by rfl) (by rfl))
                case d333 => exact me_int
                case d334 => exact (fun _ _ => rfl)
               case d328 => exact ma_nil
               case d329 => rfl
              case d325 => rfl
              case d326 => rfl
             case d312 => exact (nomark _)
         case d292 =>
          with_reducible refine' mss_cons ?d336 ?d337
          case d336 =>
           with_reducible refine' ms_set (i := 3) ?d338 ?d339 ?d340 ?d341 ?d342 ?d343
           case d338 => exact sc__law_draw.nd
           case d339 => exact rfl
           case d340 => exact (Or.inl q__law_draw__law_once.lk)
           case d341 =>
            with_reducible refine' me_op ?d344 ?d345 ?d346 ?d347
            case d344 => exact op_addM
            case d345 => exact fm_add
            case d346 =>
             with_reducible refine' me_op ?d348 ?d349 ?d350 ?d351
             case d348 => exact op_addM
             case d349 => exact fm_add
             case d350 =>
              with_reducible refine' me_op ?d352 ?d353 ?d354 ?d355
              case d352 => exact op_mod
              case d353 => exact fm_mod
              case d354 =>
               with_reducible refine' me_var ?d356
               case d356 => exact (pvk 2 q__law_draw__law_cell (by rfl) (by rfl))
              case d355 => exact me_int
             case d351 =>
              with_reducible refine' me_op ?d357 ?d358 ?d359 ?d360
              case d357 => exact op_mulM
              case d358 => exact fm_mul
              case d359 => exact me_int
              case d360 =>
               with_reducible refine' me_ix ?d361 ?d362 ?d363 ?d364 ?d365
               case d361 => exact ix_seq
               case d362 => exact fm_ix
               case d363 =>
                with_reducible refine' me_var ?d366
                case d366 => exact (pvk 0 q__law_draw__law_hand_here (by rfl) (by rfl))
               case d364 => exact me_int
               case d365 => exact (fun _ _ => rfl)
            case d347 => exact me_int
           case d342 => rfl
           case d343 => rfl
          case d337 =>
           with_reducible refine' mss_cons ?d367 ?d368
           case d367 =>
            with_reducible refine' ms_set (i := 3) ?d369 ?d370 ?d371 ?d372 ?d373 ?d374
            case d369 => exact sc__law_draw.nd
            case d370 => exact rfl
            case d371 => exact (Or.inl q__law_draw__law_once.lk)
            case d372 =>
             with_reducible refine' me_op ?d375 ?d376 ?d377 ?d378
             case d375 => exact op_mod
             case d376 => exact fm_mod
             case d377 =>
              with_reducible refine' me_op ?d379 ?d380 ?d381 ?d382
              case d379 => exact op_mulM
              case d380 => exact fm_mul
              case d381 =>
               with_reducible refine' me_var ?d383
               case d383 => exact (pvk 3 q__law_draw__law_once (by rfl) (by rfl))
              case d382 =>
               with_reducible refine' me_op ?d384 ?d385 ?d386 ?d387
               case d384 => exact op_addM
               case d385 => exact fm_add
               case d386 => exact me_int
               case d387 =>
                with_reducible refine' me_op ?d388 ?d389 ?d390 ?d391
                case d388 => exact op_mulM
                case d389 => exact fm_mul
                case d390 => exact me_int
                case d391 =>
                 with_reducible refine' me_ix ?d392 ?d393 ?d394 ?d395 ?d396
                 case d392 => exact ix_seq
                 case d393 => exact fm_ix
                 case d394 =>
                  with_reducible refine' me_var ?d397
                  case d397 => exact (pvk 0 q__law_draw__law_hand_here (by rfl) (by rfl))
                 case d395 => exact me_int
                 case d396 => exact (fun _ _ => rfl)
             case d378 => exact me_int
            case d373 => rfl
            case d374 => rfl
           case d368 =>
            with_reducible refine' mss_cons ?d398 ?d399
            case d398 =>
             with_reducible refine' ms_set (i := 4) ?d400 ?d401 ?d402 ?d403 ?d404 ?d405
             case d400 => exact sc__law_draw.nd
             case d401 => exact rfl
             case d402 => exact (Or.inl q__law_draw__law_twice.lk)
             case d403 =>
              with_reducible refine' me_op ?d406 ?d407 ?d408 ?d409
              case d406 => exact op_mod
              case d407 => exact fm_mod
              case d408 =>
               with_reducible refine' me_op ?d410 ?d411 ?d412 ?d413
               case d410 => exact op_addM
               case d411 => exact fm_add
               case d412 =>
                with_reducible refine' me_op ?d414 ?d415 ?d416 ?d417
                case d414 => exact op_mulM
                case d415 => exact fm_mul
                case d416 =>
                 with_reducible refine' me_var ?d418
                 case d418 => exact (pvk 3 q__law_draw__law_once (by rfl) (by rfl))
                case d417 =>
                 with_reducible refine' me_op ?d419 ?d420 ?d421 ?d422
                 case d419 => exact op_addM
                 case d420 => exact fm_add
                 case d421 =>
                  with_reducible refine' me_op ?d423 ?d424 ?d425 ?d426
                  case d423 => exact op_mod
                  case d424 => exact fm_mod
                  case d425 =>
                   with_reducible refine' me_var ?d427
                   case d427 => exact (pvk 3 q__law_draw__law_once (by rfl) (by rfl))
                  case d426 => exact me_int
                 case d422 =>
                  with_reducible refine' me_ix ?d428 ?d429 ?d430 ?d431 ?d432
                  case d428 => exact ix_seq
                  case d429 => exact fm_ix
                  case d430 =>
                   with_reducible refine' me_var ?d433
                   case d433 => exact (pvk 0 q__law_draw__law_hand_here (by rfl) (by rfl))
                  case d431 => exact me_int
                  case d432 => exact (fun _ _ => rfl)
               case d413 =>
                with_reducible refine' me_op ?d434 ?d435 ?d436 ?d437
                case d434 => exact op_mulM
                case d435 => exact fm_mul
                case d436 => exact me_int
                case d437 =>
                 with_reducible refine' me_ix ?d438 ?d439 ?d440 ?d441 ?d442
                 case d438 => exact ix_seq
                 case d439 => exact fm_ix
                 case d440 =>
                  with_reducible refine' me_var ?d443
                  case d443 => exact (pvk 0 q__law_draw__law_hand_here (by rfl) (by rfl))
                 case d441 => exact me_int
                 case d442 => exact (fun _ _ => rfl)
              case d409 => exact me_int
             case d404 => rfl
             case d405 => rfl
            case d399 =>
             with_reducible refine' mss_one ?d444
             case d444 =>
              with_reducible refine' ms_ret ?d445
              case d445 =>
               with_reducible refine' me_op ?d446 ?d447 ?d448 ?d449
               case d446 => exact op_mod
               case d447 => exact fm_mod
               case d448 =>
                with_reducible refine' me_op ?d450 ?d451 ?d452 ?d453
                case d450 => exact op_fdiv
                case d451 => exact fm_div
                case d452 =>
                 with_reducible refine' me_var ?d454
                 case d454 => exact (pvk 4 q__law_draw__law_twice (by rfl) (by rfl))
                case d453 => exact me_int
               case d449 =>
                with_reducible refine' me_var ?d455
                case d455 => exact (pvk 1 q__law_draw__law_many (by rfl) (by rfl))
         case d293 => exact mss_nil
        case d290 =>
         with_reducible refine' mss_one ?d456
         case d456 =>
          with_reducible refine' ms_asg ?d457 ?d458 ?d459 ?d460 ?d461
          case d457 =>
           with_reducible refine' me_var ?d462
           case d462 => exact (pvk 2 q__law_draw__law_cell (by rfl) (by rfl))
          case d458 =>
           with_reducible refine' mg_sub ?d463 ?d464 ?d465
           case d463 =>
            with_reducible refine' me_var ?d466
            case d466 => exact (pvk 0 q__law_draw__law_hand_here (by rfl) (by rfl))
           case d464 => exact me_int
           case d465 => (intro _; rfl)
          case d459 => rfl
          case d460 => rfl
          case d461 => rfl
    case d176 => exact mss_nil
   case d173 =>
    with_reducible refine' mss_cons ?d467 ?d468
    case d467 =>
     with_reducible refine' ms_set (i := 5) ?d469 ?d470 ?d471 ?d472 ?d473 ?d474
     case d469 => exact sc__law_draw.nd
     case d470 => exact rfl
     case d471 => exact (Or.inl q__law_draw__law_found.lk)
     case d472 =>
      with_reducible refine' me_op ?d475 ?d476 ?d477 ?d478
      case d475 => exact op_mod
      case d476 => exact fm_mod
      case d477 =>
       with_reducible refine' me_ix ?d479 ?d480 ?d481 ?d482 ?d483
       case d479 => exact ix_seq
       case d480 => exact fm_ix
       case d481 =>
        with_reducible refine' me_var ?d484
        case d484 => exact (pvk 0 q__law_draw__law_hand_here (by rfl) (by rfl))
       case d482 => exact me_int
       case d483 => exact (fun _ _ => rfl)
      case d478 =>
       with_reducible refine' me_var ?d485
       case d485 => exact (pvk 1 q__law_draw__law_many (by rfl) (by rfl))
     case d473 => rfl
     case d474 => rfl
    case d468 =>
     with_reducible refine' mss_cons ?d486 ?d487
     case d486 =>
      with_reducible refine' ms_asg ?d488 ?d489 ?d490 ?d491 ?d492
      case d488 =>
       with_reducible refine' me_op ?d493 ?d494 ?d495 ?d496
       case d493 => exact op_fdiv
       case d494 => exact fm_div
       case d495 =>
        with_reducible refine' me_ix ?d497 ?d498 ?d499 ?d500 ?d501
        case d497 => exact ix_seq
        case d498 => exact fm_ix
        case d499 =>
         with_reducible refine' me_var ?d502
         case d502 => exact (pvk 0 q__law_draw__law_hand_here (by rfl) (by rfl))
        case d500 => exact me_int
        case d501 => exact (fun _ _ => rfl)
       case d496 =>
        with_reducible refine' me_var ?d503
        case d503 => exact (pvk 1 q__law_draw__law_many (by rfl) (by rfl))
      case d489 =>
       with_reducible refine' mg_sub ?d504 ?d505 ?d506
       case d504 =>
        with_reducible refine' me_var ?d507
        case d507 => exact (pvk 0 q__law_draw__law_hand_here (by rfl) (by rfl))
       case d505 => exact me_int
       case d506 => (intro _; rfl)
      case d490 => rfl
      case d491 => rfl
      case d492 => rfl
     case d487 =>
      with_reducible refine' mss_one ?d508
      case d508 =>
       with_reducible refine' ms_ret ?d509
       case d509 =>
        with_reducible refine' me_var ?d510
        case d510 => exact (pvk 5 q__law_draw__law_found (by rfl) (by rfl))
theorem ok__law_value (T : Txt K mg t) : FnOk P w K mg base CX0 2 t.f__law_value t.d__law_value ["_law_hand_here"] (spM K m__law_value) := by
  have G__law_draw := ok__law_draw (P := P) (w := w) (base := base) T
  refine T.F__law_value.okM (k := 1) sc__law_value rfl fun cdv A outer s H E hr => ?_
  unfold b__law_value
  conv => arg 2; whnf
  with_reducible refine' mss_cons ?d691 ?d692
  case d691 =>
   with_reducible refine' ms_set (i := 1) ?d693 ?d694 ?d695 ?d696 ?d697 ?d698
   case d693 => exact sc__law_value.nd
   case d694 => exact rfl
   case d695 => exact (Or.inl q__law_value__law_far.lk)
   case d696 =>
    with_reducible refine' me_ix ?d699 ?d700 ?d701 ?d702 ?d703
    case d699 => exact ix_seq
    case d700 => exact fm_ix
    case d701 =>
     with_reducible refine' me_lst ?d704
     case d704 =>
      with_reducible refine' ma_cons ?d705 ?d706 ?d707
      case d705 =>
       with_reducible refine' me_op ?d708 ?d709 ?d710 ?d711
       case d708 => exact op_sub
       case d709 => exact fm_sub
       case d710 =>
        with_reducible refine' me_op ?d712 ?d713 ?d714 ?d715
        case d712 => exact op_pow
        case d713 => exact fm_pow
        case d714 => exact me_int
        case d715 => exact me_int
       case d711 => exact me_int
      case d706 =>
       with_reducible refine' ma_cons ?d716 ?d717 ?d718
       case d716 =>
        with_reducible refine' me_op ?d719 ?d720 ?d721 ?d722
        case d719 => exact op_sub
        case d720 => exact fm_sub
        case d721 => exact me_int
        case d722 =>
         with_reducible refine' me_op ?d723 ?d724 ?d725 ?d726
         case d723 => exact op_pow
         case d724 => exact fm_pow
         case d725 => exact me_int
         case d726 => exact me_int
       case d717 =>
        with_reducible refine' ma_cons ?d727 ?d728 ?d729
        case d727 =>
         with_reducible refine' me_op ?d730 ?d731 ?d732 ?d733
         case d730 => exact op_addM
         case d731 => exact fm_add
         case d732 =>
          with_reducible refine' me_op ?d734 ?d735 ?d736 ?d737
          case d734 => exact op_pow
          case d735 => exact fm_pow
          case d736 => exact me_int
          case d737 => exact me_int
         case d733 =>
          with_reducible refine' me_call ?d738 ?d739 ?d740 ?d741 ?d742 ?d743 ?d744 ?d745 ?d746 ?d747
          case d738 => exact G__law_draw
          case d739 => exact (hr.mono (by omega))
          case d740 => exact q__law_value__law_draw
          case d741 => exact T.m__law_draw
          case d742 => exact T.F__law_draw.kp
          case d743 => exact T.b__law_draw
          case d744 => exact pass0
          case d745 =>
           with_reducible refine' ma_cons ?d748 ?d749 ?d750
           case d748 =>
            with_reducible refine' me_var ?d751
            case d751 => exact (pvk 0 q__law_value__law_hand_here (by rfl) (by rfl))
           case d749 =>
            with_reducible refine' ma_cons ?d752 ?d753 ?d754
            case d752 =>
             with_reducible refine' me_op ?d755 ?d756 ?d757 ?d758
             case d755 => exact op_pow
             case d756 => exact fm_pow
             case d757 => exact me_int
             case d758 => exact me_int
            case d753 => exact ma_nil
            case d754 => rfl
           case d750 => rfl
          case d746 => rfl
          case d747 => rfl
        case d728 => exact ma_nil
        case d729 => rfl
       case d718 => rfl
      case d707 => rfl
    case d702 =>
     with_reducible refine' me_call ?d759 ?d760 ?d761 ?d762 ?d763 ?d764 ?d765 ?d766 ?d767 ?d768
     case d759 => exact G__law_draw
     case d760 => exact (hr.mono (by omega))
     case d761 => exact q__law_value__law_draw
     case d762 => exact T.m__law_draw
     case d763 => exact T.F__law_draw.kp
     case d764 => exact T.b__law_draw
     case d765 => exact pass0
     case d766 =>
      with_reducible refine' ma_cons ?d769 ?d770 ?d771
      case d769 =>
       with_reducible refine' me_var ?d772
       case d772 => exact (pvk 0 q__law_value__law_hand_here (by rfl) (by rfl))
      case d770 =>
       with_reducible refine' ma_cons ?d773 ?d774 ?d775
       case d773 => exact me_int
       case d774 => exact ma_nil
       case d775 => rfl
      case d771 => rfl
     case d767 => rfl
     case d768 => rfl
    case d703 => exact (fun _ _ => rfl)
   case d697 => rfl
   case d698 => rfl
  case d692 =>
   with_reducible refine' mss_cons ?d776 ?d777
   case d776 =>
    with_reducible refine' ms_set (i := 2) ?d778 ?d779 ?d780 ?d781 ?d782 ?d783
    case d778 => exact sc__law_value.nd
    case d779 => exact rfl
    case d780 => exact (Or.inl q__law_value__law_texts.lk)
    case d781 =>
     with_reducible refine' me_lst ?d784
     case d784 =>
      with_reducible refine' ma_cons ?d785 ?d786 ?d787
      case d785 => exact me_str
      case d786 =>
       with_reducible refine' ma_cons ?d788 ?d789 ?d790
       case d788 => exact me_str
       case d789 =>
        with_reducible refine' ma_cons ?d791 ?d792 ?d793
        case d791 => exact me_str
        case d792 =>
         with_reducible refine' ma_cons ?d794 ?d795 ?d796
         case d794 => exact me_str
         case d795 =>
          with_reducible refine' ma_cons ?d797 ?d798 ?d799
          case d797 => exact me_str
          case d798 =>
           with_reducible refine' ma_cons ?d800 ?d801 ?d802
           case d800 => exact me_str
           case d801 =>
            with_reducible refine' ma_cons ?d803 ?d804 ?d805
            case d803 => exact me_str
            case d804 =>
             with_reducible refine' ma_cons ?d806 ?d807 ?d808
             case d806 => exact me_str
             case d807 =>
              with_reducible refine' ma_cons ?d809 ?d810 ?d811
              case d809 => exact me_str
              case d810 =>
               with_reducible refine' ma_cons ?d812 ?d813 ?d814
               case d812 => exact me_str
               case d813 =>
                with_reducible refine' ma_cons ?d815 ?d816 ?d817
                case d815 => exact me_str
                case d816 =>
                 with_reducible refine' ma_cons ?d818 ?d819 ?d820
                 case d818 => exact me_str
                 case d819 => exact ma_nil
                 case d820 => rfl
                case d817 => rfl
               case d814 => rfl
              case d811 => rfl
             case d808 => rfl
            case d805 => rfl
           case d802 => rfl
          case d799 => rfl
         case d796 => rfl
        case d793 => rfl
       case d790 => rfl
      case d787 => rfl
    case d782 => rfl
    case d783 => rfl
   case d777 =>
    with_reducible refine' mss_cons ?d821 ?d822
    case d821 =>
     with_reducible refine' ms_set (i := 3) ?d823 ?d824 ?d825 ?d826 ?d827 ?d828
     case d823 => exact sc__law_value.nd
     case d824 => exact rfl
     case d825 => exact (Or.inl q__law_value__law_some.lk)
     case d826 =>
      with_reducible refine' me_lst ?d829
      case d829 =>
       with_reducible refine' ma_cons ?d830 ?d831 ?d832
       case d830 =>
        with_reducible refine' me_call ?d833 ?d834 ?d835 ?d836 ?d837 ?d838 ?d839 ?d840 ?d841 ?d842
        case d833 => exact G__law_draw
        case d834 => exact (hr.mono (by omega))
        case d835 => exact q__law_value__law_draw
        case d836 => exact T.m__law_draw
        case d837 => exact T.F__law_draw.kp
        case d838 => exact T.b__law_draw
        case d839 => exact pass0
        case d840 =>
         with_reducible refine' ma_cons ?d843 ?d844 ?d845
         case d843 =>
          with_reducible refine' me_var ?d846
          case d846 => exact (pvk 0 q__law_value__law_hand_here (by rfl) (by rfl))
         case d844 =>
          with_reducible refine' ma_cons ?d847 ?d848 ?d849
          case d847 => exact me_int
          case d848 => exact ma_nil
          case d849 => rfl
         case d845 => rfl
        case d841 => rfl
        case d842 => rfl
       case d831 =>
        with_reducible refine' ma_cons ?d850 ?d851 ?d852
        case d850 =>
         with_reducible refine' me_op ?d853 ?d854 ?d855 ?d856
         case d853 => exact op_sub
         case d854 => exact fm_sub
         case d855 =>
          with_reducible refine' me_call ?d857 ?d858 ?d859 ?d860 ?d861 ?d862 ?d863 ?d864 ?d865 ?d866
          case d857 => exact G__law_draw
          case d858 => exact (hr.mono (by omega))
          case d859 => exact q__law_value__law_draw
          case d860 => exact T.m__law_draw
          case d861 => exact T.F__law_draw.kp
          case d862 => exact T.b__law_draw
          case d863 => exact pass0
          case d864 =>
           with_reducible refine' ma_cons ?d867 ?d868 ?d869
           case d867 =>
            with_reducible refine' me_var ?d870
            case d870 => exact (pvk 0 q__law_value__law_hand_here (by rfl) (by rfl))
           case d868 =>
            with_reducible refine' ma_cons ?d871 ?d872 ?d873
            case d871 => exact me_int
            case d872 => exact ma_nil
            case d873 => rfl
           case d869 => rfl
          case d865 => rfl
          case d866 => rfl
         case d856 => exact me_int
        case d851 =>
         with_reducible refine' ma_cons ?d874 ?d875 ?d876
         case d874 =>
          with_reducible refine' me_var ?d877
          case d877 => exact (pvk 1 q__law_value__law_far (by rfl) (by rfl))
         case d875 =>
          with_reducible refine' ma_cons ?d878 ?d879 ?d880
          case d878 =>
           with_reducible refine' me_ix ?d881 ?d882 ?d883 ?d884 ?d885
           case d881 => exact ix_seq
           case d882 => exact fm_ix
           case d883 =>
            with_reducible refine' me_var ?d886
            case d886 => exact (pvk 2 q__law_value__law_texts (by rfl) (by rfl))
           case d884 =>
            with_reducible refine' me_call ?d887 ?d888 ?d889 ?d890 ?d891 ?d892 ?d893 ?d894 ?d895 ?d896
            case d887 => exact G__law_draw
            case d888 => exact (hr.mono (by omega))
            case d889 => exact q__law_value__law_draw
            case d890 => exact T.m__law_draw
            case d891 => exact T.F__law_draw.kp
            case d892 => exact T.b__law_draw
            case d893 => exact pass0
            case d894 =>
             with_reducible refine' ma_cons ?d897 ?d898 ?d899
             case d897 =>
              with_reducible refine' me_var ?d900
              case d900 => exact (pvk 0 q__law_value__law_hand_here (by rfl) (by rfl))
             case d898 =>
              with_reducible refine' ma_cons ?d901 ?d902 ?d903
              case d901 => exact me_int
              case d902 => exact ma_nil
              case d903 => rfl
             case d899 => rfl
            case d895 => rfl
            case d896 => rfl
           case d885 => exact (fun _ _ => rfl)
          case d879 => exact ma_nil
          case d880 => rfl
         case d876 => rfl
        case d852 => rfl
       case d832 => rfl
     case d827 => rfl
     case d828 => rfl
    case d822 =>
     with_reducible refine' mss_one ?d904
     case d904 =>
      with_reducible refine' ms_ret ?d905
      case d905 =>
       with_reducible refine' me_ix ?d906 ?d907 ?d908 ?d909 ?d910
       case d906 => exact ix_seq
       case d907 => exact fm_ix
       case d908 =>
        with_reducible refine' me_var ?d911
        case d911 => exact (pvk 3 q__law_value__law_some (by rfl) (by rfl))
       case d909 =>
        with_reducible refine' me_ix ?d912 ?d913 ?d914 ?d915 ?d916
        case d912 => exact ix_seq
        case d913 => exact fm_ix
        case d914 =>
         with_reducible refine' me_lst ?d917
         case d917 =>
          with_reducible refine' ma_cons ?d918 ?d919 ?d920
          case d918 => exact me_int
          case d919 =>
           with_reducible refine' ma_cons ?d921 ?d922 ?d923
           case d921 => exact me_int
           case d922 =>
            with_reducible refine' ma_cons ?d924 ?d925 ?d926
            case d924 => exact me_int
            case d925 =>
             with_reducible refine' ma_cons ?d927 ?d928 ?d929
             case d927 => exact me_int
             case d928 =>
              with_reducible refine' ma_cons ?d930 ?d931 ?d932
              case d930 => exact me_int
              case d931 => exact ma_nil
              case d932 => rfl
             case d929 => rfl
            case d926 => rfl
           case d923 => rfl
          case d920 => rfl
        case d915 =>
         with_reducible refine' me_call ?d933 ?d934 ?d935 ?d936 ?d937 ?d938 ?d939 ?d940 ?d941 ?d942
         case d933 => exact G__law_draw
         case d934 => exact (hr.mono (by omega))
         case d935 => exact q__law_value__law_draw
         case d936 => exact T.m__law_draw
         case d937 => exact T.F__law_draw.kp
         case d938 => exact T.b__law_draw
         case d939 => exact pass0
         case d940 =>
          with_reducible refine' ma_cons ?d943 ?d944 ?d945
          case d943 =>
           with_reducible refine' me_var ?d946
           case d946 => exact (pvk 0 q__law_value__law_hand_here (by rfl) (by rfl))
          case d944 =>
           with_reducible refine' ma_cons ?d947 ?d948 ?d949
           case d947 => exact me_int
           case d948 => exact ma_nil
           case d949 => rfl
          case d945 => rfl
         case d941 => rfl
         case d942 => rfl
        case d916 => exact (fun _ _ => rfl)
       case d910 => exact (fun _ _ => rfl)
theorem ok__law_is_number (T : Txt K mg t) : FnOk P w K mg base CX0 1 t.f__law_is_number t.d__law_is_number ["_law_thing"] (spM K m__law_is_number) := by
  refine T.F__law_is_number.okM (k := 0) sc__law_is_number rfl fun cdv A outer s H E hr => ?_
  unfold b__law_is_number
  conv => arg 2; whnf
  with_reducible refine' mss_one ?d950
  case d950 =>
   with_reducible refine' ms_ret ?d951
   case d951 =>
    with_reducible refine' me_and ?d952 ?d953
    case d952 =>
     with_reducible refine' me_CB ?d954 ?d955 ?d956 ?d957 ?d958 ?d959 ?d960 ?d961
     case d954 => exact call_instM
     case d955 => exact fm_inst
     case d956 => exact q__law_is_number_isinstance
     case d957 => exact T.z_isinstance
     case d958 => exact PyProof.Rows.boot_isinstance
     case d959 =>
      with_reducible refine' ma_cons ?d962 ?d963 ?d964
      case d962 =>
       with_reducible refine' me_var ?d965
       case d965 => exact (pvk 0 q__law_is_number__law_thing (by rfl) (by rfl))
      case d963 =>
       with_reducible refine' ma_cons ?d966 ?d967 ?d968
       case d966 =>
        with_reducible refine' me_C ?d969 ?d970
        case d969 =>
         with_reducible refine' pe_bltnk (v := .ty "int") ?d971 ?d972 ?d973 ?d974
         case d971 => exact q__law_is_number_int
         case d972 => exact T.z_int
         case d973 => rfl
         case d974 => exact rfl
        case d970 => exact (fun _ _ => rfl)
       case d967 => exact ma_nil
       case d968 => rfl
      case d964 => rfl
     case d960 => rfl
     case d961 => rfl
    case d953 =>
     with_reducible refine' me_one ?d975
     case d975 =>
      with_reducible refine' me_not ?d976
      case d976 =>
       with_reducible refine' me_CB ?d977 ?d978 ?d979 ?d980 ?d981 ?d982 ?d983 ?d984
       case d977 => exact call_instM
       case d978 => exact fm_inst
       case d979 => exact q__law_is_number_isinstance
       case d980 => exact T.z_isinstance
       case d981 => exact PyProof.Rows.boot_isinstance
       case d982 =>
        with_reducible refine' ma_cons ?d985 ?d986 ?d987
        case d985 =>
         with_reducible refine' me_var ?d988
         case d988 => exact (pvk 0 q__law_is_number__law_thing (by rfl) (by rfl))
        case d986 =>
         with_reducible refine' ma_cons ?d989 ?d990 ?d991
         case d989 =>
          with_reducible refine' me_C ?d992 ?d993
          case d992 =>
           with_reducible refine' pe_bltnk (v := .ty "bool") ?d994 ?d995 ?d996 ?d997
           case d994 => exact q__law_is_number_bool
           case d995 => exact T.z_bool
           case d996 => rfl
           case d997 => exact rfl
          case d993 => exact (fun _ _ => rfl)
         case d990 => exact ma_nil
         case d991 => rfl
        case d987 => rfl
       case d983 => rfl
       case d984 => rfl
theorem ok__law_ahead (T : Txt K mg t) : FnOk P w K mg base CX0 2 t.f__law_ahead t.d__law_ahead ["_law_one", "_law_other"] (spM K m__law_ahead) := by
  have G__law_is_number := ok__law_is_number (P := P) (w := w) (base := base) T
  refine T.F__law_ahead.okM (k := 1) sc__law_ahead rfl fun cdv A outer s H E hr => ?_
  unfold b__law_ahead
  conv => arg 2; whnf
  with_reducible refine' mss_cons ?d998 ?d999
  case d998 =>
   with_reducible refine' ms_if ?d1000 ?d1001 ?d1002
   case d1000 =>
    with_reducible refine' mt_cmp ?d1003 ?d1004 ?d1005 ?d1006 ?d1007
    case d1003 => exact (op_neK (hu151 hr))
    case d1004 => exact fm_ne
    case d1005 =>
     with_reducible refine' me_call ?d1008 ?d1009 ?d1010 ?d1011 ?d1012 ?d1013 ?d1014 ?d1015 ?d1016 ?d1017
     case d1008 => exact G__law_is_number
     case d1009 => exact (hr.mono (by omega))
     case d1010 => exact q__law_ahead__law_is_number
     case d1011 => exact T.m__law_is_number
     case d1012 => exact T.F__law_is_number.kp
     case d1013 => exact T.b__law_is_number
     case d1014 => exact pass0
     case d1015 =>
      with_reducible refine' ma_cons ?d1018 ?d1019 ?d1020
      case d1018 =>
       with_reducible refine' me_var ?d1021
       case d1021 => exact (pvk 0 q__law_ahead__law_one (by rfl) (by rfl))
      case d1019 => exact ma_nil
      case d1020 => rfl
     case d1016 => rfl
     case d1017 => rfl
    case d1006 =>
     with_reducible refine' me_call ?d1022 ?d1023 ?d1024 ?d1025 ?d1026 ?d1027 ?d1028 ?d1029 ?d1030 ?d1031
     case d1022 => exact G__law_is_number
     case d1023 => exact (hr.mono (by omega))
     case d1024 => exact q__law_ahead__law_is_number
     case d1025 => exact T.m__law_is_number
     case d1026 => exact T.F__law_is_number.kp
     case d1027 => exact T.b__law_is_number
     case d1028 => exact pass0
     case d1029 =>
      with_reducible refine' ma_cons ?d1032 ?d1033 ?d1034
      case d1032 =>
       with_reducible refine' me_var ?d1035
       case d1035 => exact (pvk 1 q__law_ahead__law_other (by rfl) (by rfl))
      case d1033 => exact ma_nil
      case d1034 => rfl
     case d1030 => rfl
     case d1031 => rfl
    case d1007 => exact (nomark _)
   case d1001 =>
    with_reducible refine' mss_one ?d1036
    case d1036 =>
     with_reducible refine' ms_ret ?d1037
     case d1037 =>
      with_reducible refine' me_call ?d1038 ?d1039 ?d1040 ?d1041 ?d1042 ?d1043 ?d1044 ?d1045 ?d1046 ?d1047
      case d1038 => exact G__law_is_number
      case d1039 => exact (hr.mono (by omega))
      case d1040 => exact q__law_ahead__law_is_number
      case d1041 => exact T.m__law_is_number
      case d1042 => exact T.F__law_is_number.kp
      case d1043 => exact T.b__law_is_number
      case d1044 => exact pass0
      case d1045 =>
       with_reducible refine' ma_cons ?d1048 ?d1049 ?d1050
       case d1048 =>
        with_reducible refine' me_var ?d1051
        case d1051 => exact (pvk 0 q__law_ahead__law_one (by rfl) (by rfl))
       case d1049 => exact ma_nil
       case d1050 => rfl
      case d1046 => rfl
      case d1047 => rfl
   case d1002 => exact mss_nil
  case d999 =>
   with_reducible refine' mss_cons ?d1052 ?d1053
   case d1052 =>
    with_reducible refine' ms_if ?d1054 ?d1055 ?d1056
    case d1054 =>
     with_reducible refine' mt_val ?d1057 ?d1058
     case d1057 =>
      with_reducible refine' me_call ?d1059 ?d1060 ?d1061 ?d1062 ?d1063 ?d1064 ?d1065 ?d1066 ?d1067 ?d1068
      case d1059 => exact G__law_is_number
      case d1060 => exact (hr.mono (by omega))
      case d1061 => exact q__law_ahead__law_is_number
      case d1062 => exact T.m__law_is_number
      case d1063 => exact T.F__law_is_number.kp
      case d1064 => exact T.b__law_is_number
      case d1065 => exact pass0
      case d1066 =>
       with_reducible refine' ma_cons ?d1069 ?d1070 ?d1071
       case d1069 =>
        with_reducible refine' me_var ?d1072
        case d1072 => exact (pvk 0 q__law_ahead__law_one (by rfl) (by rfl))
       case d1070 => exact ma_nil
       case d1071 => rfl
      case d1067 => rfl
      case d1068 => rfl
     case d1058 => (intro _; rfl)
    case d1055 =>
     with_reducible refine' mss_one ?d1073
     case d1073 =>
      with_reducible refine' ms_ret ?d1074
      case d1074 =>
       with_reducible refine' me_cmp ?d1075 ?d1076 ?d1077 ?d1078 ?d1079
       case d1075 => exact op_gtA
       case d1076 => exact fm_gt
       case d1077 =>
        with_reducible refine' me_op ?d1080 ?d1081 ?d1082 ?d1083
        case d1080 => exact op_sub
        case d1081 => exact fm_sub
        case d1082 =>
         with_reducible refine' me_var ?d1084
         case d1084 => exact (pvk 1 q__law_ahead__law_other (by rfl) (by rfl))
        case d1083 =>
         with_reducible refine' me_var ?d1085
         case d1085 => exact (pvk 0 q__law_ahead__law_one (by rfl) (by rfl))
       case d1078 => exact me_int
       case d1079 => exact (nomark _)
    case d1056 => exact mss_nil
   case d1053 =>
    with_reducible refine' mss_cons ?d1086 ?d1087
    case d1086 =>
     with_reducible refine' ms_for ?d1088 ?d1089 ?d1090 ?d1091 ?d1092 ?d1093
     case d1088 => exact PassesOwn.never
     case d1089 => exact rfl
     case d1090 =>
      with_reducible refine' mi_zip ?d1094 ?d1095 ?d1096 ?d1097 ?d1098
      case d1094 => exact q__law_ahead_zip
      case d1095 => exact T.z_zip
      case d1096 =>
       with_reducible refine' ma_cons ?d1099 ?d1100 ?d1101
       case d1099 =>
        with_reducible refine' me_var ?d1102
        case d1102 => exact (pvk 0 q__law_ahead__law_one (by rfl) (by rfl))
       case d1100 =>
        with_reducible refine' ma_cons ?d1103 ?d1104 ?d1105
        case d1103 =>
         with_reducible refine' me_var ?d1106
         case d1106 => exact (pvk 1 q__law_ahead__law_other (by rfl) (by rfl))
        case d1104 => exact ma_nil
        case d1105 => rfl
       case d1101 => rfl
      case d1097 => rfl
      case d1098 => rfl
     case d1091 =>
      with_reducible refine' mg_tup ?d1107 ?d1108 ?d1109 ?d1110
      case d1107 => exact rfl
      case d1108 =>
       with_reducible refine' mgs_cons ?d1111 ?d1112 ?d1113
       case d1111 =>
        with_reducible refine' mg_name ?d1114
        case d1114 =>
         with_reducible refine' pg_name (i := 2) ?d1115 ?d1116 ?d1117 ?d1118
         case d1115 => exact sc__law_ahead.nd
         case d1116 => exact rfl
         case d1117 => exact (Or.inl q__law_ahead__law_sign.lk)
         case d1118 => exact (Or.inl rfl)
       case d1112 =>
        with_reducible refine' mgs_cons ?d1119 ?d1120 ?d1121
        case d1119 =>
         with_reducible refine' mg_name ?d1122
         case d1122 =>
          with_reducible refine' pg_name (i := 3) ?d1123 ?d1124 ?d1125 ?d1126
          case d1123 => exact sc__law_ahead.nd
          case d1124 => exact rfl
          case d1125 => exact (Or.inl q__law_ahead__law_against.lk)
          case d1126 => exact (Or.inl rfl)
        case d1120 => exact mgs_nil
        case d1121 => rfl
       case d1113 => rfl
      case d1109 => rfl
      case d1110 => rfl
     case d1092 =>
      with_reducible refine' mss_one ?d1127
      case d1127 =>
       with_reducible refine' ms_if ?d1128 ?d1129 ?d1130
       case d1128 =>
        with_reducible refine' mt_cmp ?d1131 ?d1132 ?d1133 ?d1134 ?d1135
        case d1131 => exact (op_neK (hu151 hr))
        case d1132 => exact fm_ne
        case d1133 =>
         with_reducible refine' me_var ?d1136
         case d1136 => exact (pvk 2 q__law_ahead__law_sign (by rfl) (by rfl))
        case d1134 =>
         with_reducible refine' me_var ?d1137
         case d1137 => exact (pvk 3 q__law_ahead__law_against (by rfl) (by rfl))
        case d1135 => exact (nomark _)
       case d1129 =>
        with_reducible refine' mss_one ?d1138
        case d1138 =>
         with_reducible refine' ms_ret ?d1139
         case d1139 =>
          with_reducible refine' me_cmp ?d1140 ?d1141 ?d1142 ?d1143 ?d1144
          case d1140 => exact op_ltA
          case d1141 => exact fm_lt
          case d1142 =>
           with_reducible refine' me_CB ?d1145 ?d1146 ?d1147 ?d1148 ?d1149 ?d1150 ?d1151 ?d1152
           case d1145 => exact call_ord
           case d1146 => exact fm_ord
           case d1147 => exact q__law_ahead_ord
           case d1148 => exact T.z_ord
           case d1149 => exact (by decide +kernel)
           case d1150 =>
            with_reducible refine' ma_cons ?d1153 ?d1154 ?d1155
            case d1153 =>
             with_reducible refine' me_var ?d1156
             case d1156 => exact (pvk 2 q__law_ahead__law_sign (by rfl) (by rfl))
            case d1154 => exact ma_nil
            case d1155 => rfl
           case d1151 => rfl
           case d1152 => rfl
          case d1143 =>
           with_reducible refine' me_CB ?d1157 ?d1158 ?d1159 ?d1160 ?d1161 ?d1162 ?d1163 ?d1164
           case d1157 => exact call_ord
           case d1158 => exact fm_ord
           case d1159 => exact q__law_ahead_ord
           case d1160 => exact T.z_ord
           case d1161 => exact (by decide +kernel)
           case d1162 =>
            with_reducible refine' ma_cons ?d1165 ?d1166 ?d1167
            case d1165 =>
             with_reducible refine' me_var ?d1168
             case d1168 => exact (pvk 3 q__law_ahead__law_against (by rfl) (by rfl))
            case d1166 => exact ma_nil
            case d1167 => rfl
           case d1163 => rfl
           case d1164 => rfl
          case d1144 => exact (nomark _)
       case d1130 => exact mss_nil
     case d1093 => (intro _; rfl)
    case d1087 =>
     with_reducible refine' mss_one ?d1169
     case d1169 =>
      with_reducible refine' ms_ret ?d1170
      case d1170 =>
       with_reducible refine' me_cmp ?d1171 ?d1172 ?d1173 ?d1174 ?d1175
       case d1171 => exact op_ltA
       case d1172 => exact fm_lt
       case d1173 =>
        with_reducible refine' me_CB ?d1176 ?d1177 ?d1178 ?d1179 ?d1180 ?d1181 ?d1182 ?d1183
        case d1176 => exact call_lenM
        case d1177 => exact fm_len
        case d1178 => exact q__law_ahead_len
        case d1179 => exact T.z_len
        case d1180 => exact PySem.boot_len
        case d1181 =>
         with_reducible refine' ma_cons ?d1184 ?d1185 ?d1186
         case d1184 =>
          with_reducible refine' me_var ?d1187
          case d1187 => exact (pvk 0 q__law_ahead__law_one (by rfl) (by rfl))
         case d1185 => exact ma_nil
         case d1186 => rfl
        case d1182 => rfl
        case d1183 => rfl
       case d1174 =>
        with_reducible refine' me_CB ?d1188 ?d1189 ?d1190 ?d1191 ?d1192 ?d1193 ?d1194 ?d1195
        case d1188 => exact call_lenM
        case d1189 => exact fm_len
        case d1190 => exact q__law_ahead_len
        case d1191 => exact T.z_len
        case d1192 => exact PySem.boot_len
        case d1193 =>
         with_reducible refine' ma_cons ?d1196 ?d1197 ?d1198
         case d1196 =>
          with_reducible refine' me_var ?d1199
          case d1199 => exact (pvk 1 q__law_ahead__law_other (by rfl) (by rfl))
         case d1197 => exact ma_nil
         case d1198 => rfl
        case d1194 => rfl
        case d1195 => rfl
       case d1175 => exact (nomark _)
theorem ok__law_put_in (T : Txt K mg t) : FnOk P w K mg base CX0 3 t.f__law_put_in t.d__law_put_in ["_law_row", "_law_value_here"] (spM K m__law_put_in) := by
  have G_before := ok_before (P := P) (w := w) (base := base) T
  refine T.F__law_put_in.okM (k := 2) sc__law_put_in rfl fun cdv A outer s H E hr => ?_
  unfold b__law_put_in
  conv => arg 2; whnf
  with_reducible refine' mss_cons ?d1200 ?d1201
  case d1200 =>
   with_reducible refine' ms_set (i := 2) ?d1202 ?d1203 ?d1204 ?d1205 ?d1206 ?d1207
   case d1202 => exact sc__law_put_in.nd
   case d1203 => exact rfl
   case d1204 => exact (Or.inl q__law_put_in__law_at.lk)
   case d1205 => exact me_int
   case d1206 => rfl
   case d1207 => rfl
  case d1201 =>
   with_reducible refine' mss_cons ?d1208 ?d1209
   case d1208 =>
    with_reducible refine' ms_while _ ?d1210 ?d1211 ?d1212
    case d1210 => exact PassesOwn.never
    case d1211 =>
     with_reducible refine' PW.pt ?d1213
     case d1213 =>
      with_reducible refine' mw_and ?d1214 ?d1215
      case d1214 =>
       with_reducible refine' mt_cmp ?d1216 ?d1217 ?d1218 ?d1219 ?d1220
       case d1216 => exact op_ltA
       case d1217 => exact fm_lt
       case d1218 =>
        with_reducible refine' me_var ?d1221
        case d1221 => exact (pvk 2 q__law_put_in__law_at (by rfl) (by rfl))
       case d1219 =>
        with_reducible refine' me_CB ?d1222 ?d1223 ?d1224 ?d1225 ?d1226 ?d1227 ?d1228 ?d1229
        case d1222 => exact call_lenM
        case d1223 => exact fm_len
        case d1224 => exact q__law_put_in_len
        case d1225 => exact T.z_len
        case d1226 => exact PySem.boot_len
        case d1227 =>
         with_reducible refine' ma_cons ?d1230 ?d1231 ?d1232
         case d1230 =>
          with_reducible refine' me_var ?d1233
          case d1233 => exact (pvk 0 q__law_put_in__law_row (by rfl) (by rfl))
         case d1231 => exact ma_nil
         case d1232 => rfl
        case d1228 => rfl
        case d1229 => rfl
       case d1220 => exact (nomark _)
      case d1215 =>
       with_reducible refine' mw_and1 ?d1234
       case d1234 =>
        with_reducible refine' mt_not ?d1235
        case d1235 =>
         with_reducible refine' mt_val ?d1236 ?d1237
         case d1236 =>
          with_reducible refine' me_call ?d1238 ?d1239 ?d1240 ?d1241 ?d1242 ?d1243 ?d1244 ?d1245 ?d1246 ?d1247
          case d1238 => exact G_before
          case d1239 => exact (hr.mono (by omega))
          case d1240 => exact q__law_put_in_before
          case d1241 => exact T.m_before
          case d1242 => exact T.F_before.kp
          case d1243 => exact T.b_before
          case d1244 => exact pass0
          case d1245 =>
           with_reducible refine' ma_cons ?d1248 ?d1249 ?d1250
           case d1248 =>
            with_reducible refine' me_var ?d1251
            case d1251 => exact (pvk 1 q__law_put_in__law_value_here (by rfl) (by rfl))
           case d1249 =>
            with_reducible refine' ma_cons ?d1252 ?d1253 ?d1254
            case d1252 =>
             with_reducible refine' me_ix ?d1255 ?d1256 ?d1257 ?d1258 ?d1259
             case d1255 => exact ix_seq
             case d1256 => exact fm_ix
             case d1257 =>
              with_reducible refine' me_var ?d1260
              case d1260 => exact (pvk 0 q__law_put_in__law_row (by rfl) (by rfl))
             case d1258 =>
              with_reducible refine' me_var ?d1261
              case d1261 => exact (pvk 2 q__law_put_in__law_at (by rfl) (by rfl))
             case d1259 => exact (fun _ _ => rfl)
            case d1253 => exact ma_nil
            case d1254 => rfl
           case d1250 => rfl
          case d1246 => rfl
          case d1247 => rfl
         case d1237 => (intro _; rfl)
    case d1212 =>
     with_reducible refine' mss_one ?d1262
     case d1262 =>
      with_reducible refine' ms_set (i := 2) ?d1263 ?d1264 ?d1265 ?d1266 ?d1267 ?d1268
      case d1263 => exact sc__law_put_in.nd
      case d1264 => exact rfl
      case d1265 => exact (Or.inl q__law_put_in__law_at.lk)
      case d1266 =>
       with_reducible refine' me_op ?d1269 ?d1270 ?d1271 ?d1272
       case d1269 => exact op_addM
       case d1270 => exact fm_add
       case d1271 =>
        with_reducible refine' me_var ?d1273
        case d1273 => exact (pvk 2 q__law_put_in__law_at (by rfl) (by rfl))
       case d1272 => exact me_int
      case d1267 => rfl
      case d1268 => rfl
   case d1209 =>
    with_reducible refine' mss_one ?d1274
    case d1274 =>
     with_reducible refine' ms_ret ?d1275
     case d1275 =>
      with_reducible refine' me_op ?d1276 ?d1277 ?d1278 ?d1279
      case d1276 => exact op_addM
      case d1277 => exact fm_add
      case d1278 =>
       with_reducible refine' me_op ?d1280 ?d1281 ?d1282 ?d1283
       case d1280 => exact op_addM
       case d1281 => exact fm_add
       case d1282 =>
        with_reducible refine' me_slice ?d1284 ?d1285 ?d1286 ?d1287 ?d1288
        case d1284 => exact sl_M
        case d1285 => exact fm_sl
        case d1286 =>
         with_reducible refine' me_var ?d1289
         case d1289 => exact (pvk 0 q__law_put_in__law_row (by rfl) (by rfl))
        case d1287 => exact mo_none
        case d1288 =>
         with_reducible refine' mo_some ?d1290
         case d1290 =>
          with_reducible refine' me_var ?d1291
          case d1291 => exact (pvk 2 q__law_put_in__law_at (by rfl) (by rfl))
       case d1283 =>
        with_reducible refine' me_lst ?d1292
        case d1292 =>
         with_reducible refine' ma_cons ?d1293 ?d1294 ?d1295
         case d1293 =>
          with_reducible refine' me_var ?d1296
          case d1296 => exact (pvk 1 q__law_put_in__law_value_here (by rfl) (by rfl))
         case d1294 => exact ma_nil
         case d1295 => rfl
      case d1279 =>
       with_reducible refine' me_slice ?d1297 ?d1298 ?d1299 ?d1300 ?d1301
       case d1297 => exact sl_M
       case d1298 => exact fm_sl
       case d1299 =>
        with_reducible refine' me_var ?d1302
        case d1302 => exact (pvk 0 q__law_put_in__law_row (by rfl) (by rfl))
       case d1300 =>
        with_reducible refine' mo_some ?d1303
        case d1303 =>
         with_reducible refine' me_var ?d1304
         case d1304 => exact (pvk 2 q__law_put_in__law_at (by rfl) (by rfl))
       case d1301 => exact mo_none
theorem ok__law_says (T : Txt K mg t) : FnOk P w K mg base CX0 1 t.f__law_says t.d__law_says ["_law_found", "_law_due"] (spM K m__law_says) := by
  refine T.F__law_says.okM (k := 0) sc__law_says rfl fun cdv A outer s H E hr => ?_
  unfold b__law_says
  conv => arg 2; whnf
  with_reducible refine' mss_one ?d1305
  case d1305 =>
   with_reducible refine' ms_ret ?d1306
   case d1306 =>
    with_reducible refine' me_and ?d1307 ?d1308
    case d1307 =>
     with_reducible refine' me_CB ?d1309 ?d1310 ?d1311 ?d1312 ?d1313 ?d1314 ?d1315 ?d1316
     case d1309 => exact call_instM
     case d1310 => exact fm_inst
     case d1311 => exact q__law_says_isinstance
     case d1312 => exact T.z_isinstance
     case d1313 => exact PyProof.Rows.boot_isinstance
     case d1314 =>
      with_reducible refine' ma_cons ?d1317 ?d1318 ?d1319
      case d1317 =>
       with_reducible refine' me_var ?d1320
       case d1320 => exact (pvk 0 q__law_says__law_found (by rfl) (by rfl))
      case d1318 =>
       with_reducible refine' ma_cons ?d1321 ?d1322 ?d1323
       case d1321 =>
        with_reducible refine' me_C ?d1324 ?d1325
        case d1324 =>
         with_reducible refine' pe_bltnk (v := .ty "bool") ?d1326 ?d1327 ?d1328 ?d1329
         case d1326 => exact q__law_says_bool
         case d1327 => exact T.z_bool
         case d1328 => rfl
         case d1329 => exact rfl
        case d1325 => exact (fun _ _ => rfl)
       case d1322 => exact ma_nil
       case d1323 => rfl
      case d1319 => rfl
     case d1315 => rfl
     case d1316 => rfl
    case d1308 =>
     with_reducible refine' me_one ?d1330
     case d1330 =>
      with_reducible refine' me_cmp ?d1331 ?d1332 ?d1333 ?d1334 ?d1335
      case d1331 => exact (op_eqK (hu150 hr))
      case d1332 => exact fm_eq
      case d1333 =>
       with_reducible refine' me_var ?d1336
       case d1336 => exact (pvk 0 q__law_says__law_found (by rfl) (by rfl))
      case d1334 =>
       with_reducible refine' me_var ?d1337
       case d1337 => exact (pvk 1 q__law_says__law_due (by rfl) (by rfl))
      case d1335 => exact (nomark _)
theorem ok_law (T : Txt K mg t) : FnOk P w K mg base CX0 4 t.f_law t.d_law ["_law_script"] (spM K m_law) := by
  have G__law_hand := ok__law_hand (P := P) (w := w) (base := base) T
  have G__law_draw := ok__law_draw (P := P) (w := w) (base := base) T
  have G__law_value := ok__law_value (P := P) (w := w) (base := base) T
  have G__law_put_in := ok__law_put_in (P := P) (w := w) (base := base) T
  have G__law_says := ok__law_says (P := P) (w := w) (base := base) T
  have G__law_is_number := ok__law_is_number (P := P) (w := w) (base := base) T
  have G_before := ok_before (P := P) (w := w) (base := base) T
  have G__law_ahead := ok__law_ahead (P := P) (w := w) (base := base) T
  refine T.F_law.okM (k := 3) sc_law rfl fun cdv A outer s H E hr => ?_
  unfold b_law
  conv => arg 2; whnf
  with_reducible refine' mss_cons ?d1338 ?d1339
  case d1338 =>
   with_reducible refine' ms_set (i := 1) ?d1340 ?d1341 ?d1342 ?d1343 ?d1344 ?d1345
   case d1340 => exact sc_law.nd
   case d1341 => exact rfl
   case d1342 => exact (Or.inr q_law__law_hand_here.lk)
   case d1343 =>
    with_reducible refine' me_call ?d1346 ?d1347 ?d1348 ?d1349 ?d1350 ?d1351 ?d1352 ?d1353 ?d1354 ?d1355
    case d1346 => exact G__law_hand
    case d1347 => exact (hr.mono (by omega))
    case d1348 => exact q_law__law_hand
    case d1349 => exact T.m__law_hand
    case d1350 => exact T.F__law_hand.kp
    case d1351 => exact T.b__law_hand
    case d1352 => exact pass0
    case d1353 =>
     with_reducible refine' ma_cons ?d1356 ?d1357 ?d1358
     case d1356 =>
      with_reducible refine' me_var ?d1359
      case d1359 => exact (pvk 0 q_law__law_script (by rfl) (by rfl))
     case d1357 => exact ma_nil
     case d1358 => rfl
    case d1354 => rfl
    case d1355 => rfl
   case d1344 => rfl
   case d1345 => rfl
  case d1339 =>
   with_reducible refine' mss_cons ?d1360 ?d1361
   case d1360 =>
    with_reducible refine' ms_set (i := 2) ?d1362 ?d1363 ?d1364 ?d1365 ?d1366 ?d1367
    case d1362 => exact sc_law.nd
    case d1363 => exact rfl
    case d1364 => exact (Or.inl q_law__law_many.lk)
    case d1365 =>
     with_reducible refine' me_op ?d1368 ?d1369 ?d1370 ?d1371
     case d1368 => exact op_addM
     case d1369 => exact fm_add
     case d1370 => exact me_int
     case d1371 =>
      with_reducible refine' me_call ?d1372 ?d1373 ?d1374 ?d1375 ?d1376 ?d1377 ?d1378 ?d1379 ?d1380 ?d1381
      case d1372 => exact G__law_draw
      case d1373 => exact (hr.mono (by omega))
      case d1374 => exact q_law__law_draw
      case d1375 => exact T.m__law_draw
      case d1376 => exact T.F__law_draw.kp
      case d1377 => exact T.b__law_draw
      case d1378 => exact pass0
      case d1379 =>
       with_reducible refine' ma_cons ?d1382 ?d1383 ?d1384
       case d1382 =>
        with_reducible refine' me_var ?d1385
        case d1385 => exact (pvk 1 q_law__law_hand_here (by rfl) (by rfl))
       case d1383 =>
        with_reducible refine' ma_cons ?d1386 ?d1387 ?d1388
        case d1386 => exact me_int
        case d1387 => exact ma_nil
        case d1388 => rfl
       case d1384 => rfl
      case d1380 => rfl
      case d1381 => rfl
    case d1366 => rfl
    case d1367 => rfl
   case d1361 =>
    with_reducible refine' mss_cons ?d1389 ?d1390
    case d1389 =>
     with_reducible refine' ms_if ?d1391 ?d1392 ?d1393
     case d1391 =>
      with_reducible refine' mt_cmp ?d1394 ?d1395 ?d1396 ?d1397 ?d1398
      case d1394 => exact (op_eqK (hu150 hr))
      case d1395 => exact fm_eq
      case d1396 =>
       with_reducible refine' me_call ?d1399 ?d1400 ?d1401 ?d1402 ?d1403 ?d1404 ?d1405 ?d1406 ?d1407 ?d1408
       case d1399 => exact G__law_draw
       case d1400 => exact (hr.mono (by omega))
       case d1401 => exact q_law__law_draw
       case d1402 => exact T.m__law_draw
       case d1403 => exact T.F__law_draw.kp
       case d1404 => exact T.b__law_draw
       case d1405 => exact pass0
       case d1406 =>
        with_reducible refine' ma_cons ?d1409 ?d1410 ?d1411
        case d1409 =>
         with_reducible refine' me_var ?d1412
         case d1412 => exact (pvk 1 q_law__law_hand_here (by rfl) (by rfl))
        case d1410 =>
         with_reducible refine' ma_cons ?d1413 ?d1414 ?d1415
         case d1413 => exact me_int
         case d1414 => exact ma_nil
         case d1415 => rfl
        case d1411 => rfl
       case d1407 => rfl
       case d1408 => rfl
      case d1397 => exact me_int
      case d1398 => exact (nomark _)
     case d1392 =>
      with_reducible refine' mss_one ?d1416
      case d1416 =>
       with_reducible refine' ms_set (i := 2) ?d1417 ?d1418 ?d1419 ?d1420 ?d1421 ?d1422
       case d1417 => exact sc_law.nd
       case d1418 => exact rfl
       case d1419 => exact (Or.inl q_law__law_many.lk)
       case d1420 => exact me_int
       case d1421 => rfl
       case d1422 => rfl
     case d1393 => exact mss_nil
    case d1390 =>
     with_reducible refine' mss_cons ?d1423 ?d1424
     case d1423 =>
      with_reducible refine' ms_setC (k := 3) ?d1425 ?d1426 ?d1427 (N' := ["_law_k", "_law_hand_here"]) (ix := [none, some 1]) ?d1428 ?d1429 ?d1430 ?d1431 ?d1432 ?d1433 ?d1434 ?d1435 ?d1436
      case d1425 => exact sc_law.nd
      case d1426 => exact rfl
      case d1427 => exact q_law__law_values.lk
      case d1428 => exact ⟨rfl, by decide +kernel, by decide +kernel, comp_free _ _ rfl, rfl, comp_ix _ _ _ _ rfl⟩
      case d1429 => exact rfl
      case d1430 =>
       with_reducible refine' cg_name ?d1437
       case d1437 => exact rfl
      case d1431 =>
       with_reducible refine' mi_range1 ?d1438 ?d1439 ?d1440 ?d1441
       case d1438 => exact q_law_range.lk
       case d1439 => exact T.z_range
       case d1440 =>
        with_reducible refine' ma_cons ?d1442 ?d1443 ?d1444
        case d1442 =>
         with_reducible refine' me_var ?d1445
         case d1445 => exact (pvk 2 q_law__law_many (by rfl) (by rfl))
        case d1443 => exact ma_nil
        case d1444 => rfl
       case d1441 => rfl
      case d1432 =>
       intro _ _ _ _
       exact (pgo (i := 0) ⟨by decide +kernel, by decide +kernel, by decide +kernel, by decide +kernel⟩ (show List.Nodup (["_law_k", "_law_hand_here"] : List Str) from by decide +kernel) (by rfl))
      case d1433 =>
       intro _ _ _ _
       exact mts_nil
      case d1434 =>
       intro _ _ _ _
       with_reducible refine' me_call ?d1446 ?d1447 ?d1448 ?d1449 ?d1450 ?d1451 ?d1452 ?d1453 ?d1454 ?d1455
       case d1446 => exact G__law_value
       case d1447 => exact (hr.mono (by omega))
       case d1448 => exact (NmOk.glob ⟨by decide +kernel, by decide +kernel, by decide +kernel, by decide +kernel⟩)
       case d1449 => exact T.m__law_value
       case d1450 => exact T.F__law_value.kp
       case d1451 => exact T.b__law_value
       case d1452 => exact pass0
       case d1453 =>
        with_reducible refine' ma_cons ?d1456 ?d1457 ?d1458
        case d1456 =>
         with_reducible refine' me_var ?d1459
         case d1459 => exact (pvf 1 ⟨by decide +kernel, by decide +kernel, by decide +kernel, by decide +kernel⟩ (by rfl))
        case d1457 => exact ma_nil
        case d1458 => rfl
       case d1454 => rfl
       case d1455 => rfl
      case d1435 => rfl
      case d1436 => (intro _; rfl)
     case d1424 =>
      with_reducible refine' mss_cons ?d1460 ?d1461
      case d1460 =>
       with_reducible refine' ms_set (i := 4) ?d1462 ?d1463 ?d1464 ?d1465 ?d1466 ?d1467
       case d1462 => exact sc_law.nd
       case d1463 => exact rfl
       case d1464 => exact (Or.inl q_law__law_row.lk)
       case d1465 =>
        with_reducible refine' me_lst ?d1468
        case d1468 => exact ma_nil
       case d1466 => rfl
       case d1467 => rfl
      case d1461 =>
       with_reducible refine' mss_cons ?d1469 ?d1470
       case d1469 =>
        with_reducible refine' ms_for ?d1471 ?d1472 ?d1473 ?d1474 ?d1475 ?d1476
        case d1471 => exact PassesOwn.never
        case d1472 => exact rfl
        case d1473 =>
         with_reducible refine' mi_list ?d1477
         case d1477 =>
          with_reducible refine' me_var ?d1478
          case d1478 => exact (pvk 3 q_law__law_values (by rfl) (by rfl))
        case d1474 =>
         with_reducible refine' mg_name ?d1479
         case d1479 =>
          with_reducible refine' pg_name (i := 5) ?d1480 ?d1481 ?d1482 ?d1483
          case d1480 => exact sc_law.nd
          case d1481 => exact rfl
          case d1482 => exact (Or.inl q_law__law_one.lk)
          case d1483 => exact (Or.inl rfl)
        case d1475 =>
         with_reducible refine' mss_cons ?d1484 ?d1485
         case d1484 =>
          with_reducible refine' ms_for ?d1486 ?d1487 ?d1488 ?d1489 ?d1490 ?d1491
          case d1486 => exact PassesOwn.never
          case d1487 => exact rfl
          case d1488 =>
           with_reducible refine' mi_list ?d1492
           case d1492 =>
            with_reducible refine' me_op ?d1493 ?d1494 ?d1495 ?d1496
            case d1493 => exact op_addM
            case d1494 => exact fm_add
            case d1495 =>
             with_reducible refine' me_var ?d1497
             case d1497 => exact (pvk 3 q_law__law_values (by rfl) (by rfl))
            case d1496 =>
             with_reducible refine' me_lst ?d1498
             case d1498 =>
              with_reducible refine' ma_cons ?d1499 ?d1500 ?d1501
              case d1499 => exact me_int
              case d1500 =>
               with_reducible refine' ma_cons ?d1502 ?d1503 ?d1504
               case d1502 => exact me_str
               case d1503 =>
                with_reducible refine' ma_cons ?d1505 ?d1506 ?d1507
                case d1505 => exact me_str
                case d1506 => exact ma_nil
                case d1507 => rfl
               case d1504 => rfl
              case d1501 => rfl
          case d1489 =>
           with_reducible refine' mg_name ?d1508
           case d1508 =>
            with_reducible refine' pg_name (i := 6) ?d1509 ?d1510 ?d1511 ?d1512
            case d1509 => exact sc_law.nd
            case d1510 => exact rfl
            case d1511 => exact (Or.inl q_law__law_other.lk)
            case d1512 => exact (Or.inl rfl)
          case d1490 =>
           with_reducible refine' mss_cons ?d1513 ?d1514
           case d1513 =>
            with_reducible refine' ms_if ?d1515 ?d1516 ?d1517
            case d1515 =>
             with_reducible refine' mt_not ?d1518
             case d1518 =>
              with_reducible refine' mt_val ?d1519 ?d1520
              case d1519 =>
               with_reducible refine' me_call ?d1521 ?d1522 ?d1523 ?d1524 ?d1525 ?d1526 ?d1527 ?d1528 ?d1529 ?d1530
               case d1521 => exact G__law_says
               case d1522 => exact (hr.mono (by omega))
               case d1523 => exact q_law__law_says
               case d1524 => exact T.m__law_says
               case d1525 => exact T.F__law_says.kp
               case d1526 => exact T.b__law_says
               case d1527 => exact pass0
               case d1528 =>
                with_reducible refine' ma_cons ?d1531 ?d1532 ?d1533
                case d1531 =>
                 with_reducible refine' me_call ?d1534 ?d1535 ?d1536 ?d1537 ?d1538 ?d1539 ?d1540 ?d1541 ?d1542 ?d1543
                 case d1534 => exact G_before
                 case d1535 => exact (hr.mono (by omega))
                 case d1536 => exact q_law_before
                 case d1537 => exact T.m_before
                 case d1538 => exact T.F_before.kp
                 case d1539 => exact T.b_before
                 case d1540 => exact pass0
                 case d1541 =>
                  with_reducible refine' ma_cons ?d1544 ?d1545 ?d1546
                  case d1544 =>
                   with_reducible refine' me_var ?d1547
                   case d1547 => exact (pvk 5 q_law__law_one (by rfl) (by rfl))
                  case d1545 =>
                   with_reducible refine' ma_cons ?d1548 ?d1549 ?d1550
                   case d1548 =>
                    with_reducible refine' me_var ?d1551
                    case d1551 => exact (pvk 6 q_law__law_other (by rfl) (by rfl))
                   case d1549 => exact ma_nil
                   case d1550 => rfl
                  case d1546 => rfl
                 case d1542 => rfl
                 case d1543 => rfl
                case d1532 =>
                 with_reducible refine' ma_cons ?d1552 ?d1553 ?d1554
                 case d1552 =>
                  with_reducible refine' me_call ?d1555 ?d1556 ?d1557 ?d1558 ?d1559 ?d1560 ?d1561 ?d1562 ?d1563 ?d1564
                  case d1555 => exact G__law_ahead
                  case d1556 => exact (hr.mono (by omega))
                  case d1557 => exact q_law__law_ahead
                  case d1558 => exact T.m__law_ahead
                  case d1559 => exact T.F__law_ahead.kp
                  case d1560 => exact T.b__law_ahead
                  case d1561 => exact pass0
                  case d1562 =>
                   with_reducible refine' ma_cons ?d1565 ?d1566 ?d1567
                   case d1565 =>
                    with_reducible refine' me_var ?d1568
                    case d1568 => exact (pvk 5 q_law__law_one (by rfl) (by rfl))
                   case d1566 =>
                    with_reducible refine' ma_cons ?d1569 ?d1570 ?d1571
                    case d1569 =>
                     with_reducible refine' me_var ?d1572
                     case d1572 => exact (pvk 6 q_law__law_other (by rfl) (by rfl))
                    case d1570 => exact ma_nil
                    case d1571 => rfl
                   case d1567 => rfl
                  case d1563 => rfl
                  case d1564 => rfl
                 case d1553 => exact ma_nil
                 case d1554 => rfl
                case d1533 => rfl
               case d1529 => rfl
               case d1530 => rfl
              case d1520 => (intro _; rfl)
            case d1516 =>
             with_reducible refine' mss_one ?d1573
             case d1573 =>
              with_reducible refine' ms_ret ?d1574
              case d1574 => exact me_bl
            case d1517 => exact mss_nil
           case d1514 =>
            with_reducible refine' mss_one ?d1575
            case d1575 =>
             with_reducible refine' ms_if ?d1576 ?d1577 ?d1578
             case d1576 =>
              with_reducible refine' mt_not ?d1579
              case d1579 =>
               with_reducible refine' mt_val ?d1580 ?d1581
               case d1580 =>
                with_reducible refine' me_call ?d1582 ?d1583 ?d1584 ?d1585 ?d1586 ?d1587 ?d1588 ?d1589 ?d1590 ?d1591
                case d1582 => exact G__law_says
                case d1583 => exact (hr.mono (by omega))
                case d1584 => exact q_law__law_says
                case d1585 => exact T.m__law_says
                case d1586 => exact T.F__law_says.kp
                case d1587 => exact T.b__law_says
                case d1588 => exact pass0
                case d1589 =>
                 with_reducible refine' ma_cons ?d1592 ?d1593 ?d1594
                 case d1592 =>
                  with_reducible refine' me_call ?d1595 ?d1596 ?d1597 ?d1598 ?d1599 ?d1600 ?d1601 ?d1602 ?d1603 ?d1604
                  case d1595 => exact G_before
                  case d1596 => exact (hr.mono (by omega))
                  case d1597 => exact q_law_before
                  case d1598 => exact T.m_before
                  case d1599 => exact T.F_before.kp
                  case d1600 => exact T.b_before
                  case d1601 => exact pass0
                  case d1602 =>
                   with_reducible refine' ma_cons ?d1605 ?d1606 ?d1607
                   case d1605 =>
                    with_reducible refine' me_var ?d1608
                    case d1608 => exact (pvk 6 q_law__law_other (by rfl) (by rfl))
                   case d1606 =>
                    with_reducible refine' ma_cons ?d1609 ?d1610 ?d1611
                    case d1609 =>
                     with_reducible refine' me_var ?d1612
                     case d1612 => exact (pvk 5 q_law__law_one (by rfl) (by rfl))
                    case d1610 => exact ma_nil
                    case d1611 => rfl
                   case d1607 => rfl
                  case d1603 => rfl
                  case d1604 => rfl
                 case d1593 =>
                  with_reducible refine' ma_cons ?d1613 ?d1614 ?d1615
                  case d1613 =>
                   with_reducible refine' me_call ?d1616 ?d1617 ?d1618 ?d1619 ?d1620 ?d1621 ?d1622 ?d1623 ?d1624 ?d1625
                   case d1616 => exact G__law_ahead
                   case d1617 => exact (hr.mono (by omega))
                   case d1618 => exact q_law__law_ahead
                   case d1619 => exact T.m__law_ahead
                   case d1620 => exact T.F__law_ahead.kp
                   case d1621 => exact T.b__law_ahead
                   case d1622 => exact pass0
                   case d1623 =>
                    with_reducible refine' ma_cons ?d1626 ?d1627 ?d1628
                    case d1626 =>
                     with_reducible refine' me_var ?d1629
                     case d1629 => exact (pvk 6 q_law__law_other (by rfl) (by rfl))
                    case d1627 =>
                     with_reducible refine' ma_cons ?d1630 ?d1631 ?d1632
                     case d1630 =>
                      with_reducible refine' me_var ?d1633
                      case d1633 => exact (pvk 5 q_law__law_one (by rfl) (by rfl))
                     case d1631 => exact ma_nil
                     case d1632 => rfl
                    case d1628 => rfl
                   case d1624 => rfl
                   case d1625 => rfl
                  case d1614 => exact ma_nil
                  case d1615 => rfl
                 case d1594 => rfl
                case d1590 => rfl
                case d1591 => rfl
               case d1581 => (intro _; rfl)
             case d1577 =>
              with_reducible refine' mss_one ?d1634
              case d1634 =>
               with_reducible refine' ms_ret ?d1635
               case d1635 => exact me_bl
             case d1578 => exact mss_nil
          case d1491 => (intro _; rfl)
         case d1485 =>
          with_reducible refine' mss_one ?d1636
          case d1636 =>
           with_reducible refine' ms_set (i := 4) ?d1637 ?d1638 ?d1639 ?d1640 ?d1641 ?d1642
           case d1637 => exact sc_law.nd
           case d1638 => exact rfl
           case d1639 => exact (Or.inl q_law__law_row.lk)
           case d1640 =>
            with_reducible refine' me_call ?d1643 ?d1644 ?d1645 ?d1646 ?d1647 ?d1648 ?d1649 ?d1650 ?d1651 ?d1652
            case d1643 => exact G__law_put_in
            case d1644 => exact (hr.mono (by omega))
            case d1645 => exact q_law__law_put_in
            case d1646 => exact T.m__law_put_in
            case d1647 => exact T.F__law_put_in.kp
            case d1648 => exact T.b__law_put_in
            case d1649 => exact pass0
            case d1650 =>
             with_reducible refine' ma_cons ?d1653 ?d1654 ?d1655
             case d1653 =>
              with_reducible refine' me_var ?d1656
              case d1656 => exact (pvk 4 q_law__law_row (by rfl) (by rfl))
             case d1654 =>
              with_reducible refine' ma_cons ?d1657 ?d1658 ?d1659
              case d1657 =>
               with_reducible refine' me_var ?d1660
               case d1660 => exact (pvk 5 q_law__law_one (by rfl) (by rfl))
              case d1658 => exact ma_nil
              case d1659 => rfl
             case d1655 => rfl
            case d1651 => rfl
            case d1652 => rfl
           case d1641 => rfl
           case d1642 => rfl
        case d1476 => (intro _; rfl)
       case d1470 =>
        with_reducible refine' mss_cons ?d1661 ?d1662
        case d1661 =>
         with_reducible refine' ms_set (i := 7) ?d1663 ?d1664 ?d1665 ?d1666 ?d1667 ?d1668
         case d1663 => exact sc_law.nd
         case d1664 => exact rfl
         case d1665 => exact (Or.inl q_law__law_numbers.lk)
         case d1666 =>
          with_reducible refine' me_CB ?d1669 ?d1670 ?d1671 ?d1672 ?d1673 ?d1674 ?d1675 ?d1676
          case d1669 => exact call_sortedM
          case d1670 => exact fm_sorted
          case d1671 => exact q_law_sorted
          case d1672 => exact T.z_sorted
          case d1673 => exact PyProof.Rows.boot_sorted
          case d1674 =>
           with_reducible refine' ma_cons ?d1677 ?d1678 ?d1679
           case d1677 =>
            with_reducible refine' me_comp (N' := ["_law_one"]) (ix := [none]) ?d1680 ?d1681 ?d1682 ?d1683 ?d1684 ?d1685 ?d1686 ?d1687
            case d1680 => exact ⟨rfl, by decide +kernel, by decide +kernel, comp_free _ _ rfl, rfl, comp_ix _ _ _ _ rfl⟩
            case d1681 => exact rfl
            case d1682 =>
             with_reducible refine' cg_name ?d1688
             case d1688 => exact rfl
            case d1683 =>
             with_reducible refine' mi_list ?d1689
             case d1689 =>
              with_reducible refine' me_var ?d1690
              case d1690 => exact (pvk 3 q_law__law_values (by rfl) (by rfl))
            case d1684 =>
             intro _ _ _ _
             exact (pgo (i := 0) ⟨by decide +kernel, by decide +kernel, by decide +kernel, by decide +kernel⟩ (show List.Nodup (["_law_one"] : List Str) from by decide +kernel) (by rfl))
            case d1685 =>
             intro _ _ _ _
             with_reducible refine' mts_one ?d1691
             case d1691 =>
              with_reducible refine' mt_val ?d1692 ?d1693
              case d1692 =>
               with_reducible refine' me_call ?d1694 ?d1695 ?d1696 ?d1697 ?d1698 ?d1699 ?d1700 ?d1701 ?d1702 ?d1703
               case d1694 => exact G__law_is_number
               case d1695 => exact (hr.mono (by omega))
               case d1696 => exact (NmOk.glob ⟨by decide +kernel, by decide +kernel, by decide +kernel, by decide +kernel⟩)
               case d1697 => exact T.m__law_is_number
               case d1698 => exact T.F__law_is_number.kp
               case d1699 => exact T.b__law_is_number
               case d1700 => exact pass0
               case d1701 =>
                with_reducible refine' ma_cons ?d1704 ?d1705 ?d1706
                case d1704 =>
                 with_reducible refine' me_var ?d1707
                 case d1707 => exact (pvk 0 (NmOk.own ⟨by decide +kernel, by decide +kernel, by decide +kernel, by decide +kernel⟩) (by rfl) (by rfl))
                case d1705 => exact ma_nil
                case d1706 => rfl
               case d1702 => rfl
               case d1703 => rfl
              case d1693 => (intro _; rfl)
            case d1686 =>
             intro _ _ _ _
             with_reducible refine' me_var ?d1708
             case d1708 => exact (pvk 0 (NmOk.own ⟨by decide +kernel, by decide +kernel, by decide +kernel, by decide +kernel⟩) (by rfl) (by rfl))
            case d1687 => (intro _; rfl)
           case d1678 => exact ma_nil
           case d1679 => rfl
          case d1675 => rfl
          case d1676 => rfl
         case d1667 => rfl
         case d1668 => rfl
        case d1662 =>
         with_reducible refine' mss_one ?d1709
         case d1709 =>
          with_reducible refine' ms_ret ?d1710
          case d1710 =>
           with_reducible refine' me_cmp ?d1711 ?d1712 ?d1713 ?d1714 ?d1715
           case d1711 => exact (op_eqK (hu150 hr))
           case d1712 => exact fm_eq
           case d1713 =>
            with_reducible refine' me_var ?d1716
            case d1716 => exact (pvk 4 q_law__law_row (by rfl) (by rfl))
           case d1714 =>
            with_reducible refine' me_op ?d1717 ?d1718 ?d1719 ?d1720
            case d1717 => exact op_addM
            case d1718 => exact fm_add
            case d1719 =>
             with_reducible refine' me_var ?d1721
             case d1721 => exact (pvk 7 q_law__law_numbers (by rfl) (by rfl))
            case d1720 =>
             with_reducible refine' me_CB ?d1722 ?d1723 ?d1724 ?d1725 ?d1726 ?d1727 ?d1728 ?d1729
             case d1722 => exact call_sortedM
             case d1723 => exact fm_sorted
             case d1724 => exact q_law_sorted
             case d1725 => exact T.z_sorted
             case d1726 => exact PyProof.Rows.boot_sorted
             case d1727 =>
              with_reducible refine' ma_cons ?d1730 ?d1731 ?d1732
              case d1730 =>
               with_reducible refine' me_comp (N' := ["_law_one"]) (ix := [none]) ?d1733 ?d1734 ?d1735 ?d1736 ?d1737 ?d1738 ?d1739 ?d1740
               case d1733 => exact ⟨rfl, by decide +kernel, by decide +kernel, comp_free _ _ rfl, rfl, comp_ix _ _ _ _ rfl⟩
               case d1734 => exact rfl
               case d1735 =>
                with_reducible refine' cg_name ?d1741
                case d1741 => exact rfl
               case d1736 =>
                with_reducible refine' mi_list ?d1742
                case d1742 =>
                 with_reducible refine' me_var ?d1743
                 case d1743 => exact (pvk 3 q_law__law_values (by rfl) (by rfl))
               case d1737 =>
                intro _ _ _ _
                exact (pgo (i := 0) ⟨by decide +kernel, by decide +kernel, by decide +kernel, by decide +kernel⟩ (show List.Nodup (["_law_one"] : List Str) from by decide +kernel) (by rfl))
               case d1738 =>
                intro _ _ _ _
                with_reducible refine' mts_one ?d1744
                case d1744 =>
                 with_reducible refine' mt_not ?d1745
                 case d1745 =>
                  with_reducible refine' mt_val ?d1746 ?d1747
                  case d1746 =>
                   with_reducible refine' me_call ?d1748 ?d1749 ?d1750 ?d1751 ?d1752 ?d1753 ?d1754 ?d1755 ?d1756 ?d1757
                   case d1748 => exact G__law_is_number
                   case d1749 => exact (hr.mono (by omega))
                   case d1750 => exact (NmOk.glob ⟨by decide +kernel, by decide +kernel, by decide +kernel, by decide +kernel⟩)
                   case d1751 => exact T.m__law_is_number
                   case d1752 => exact T.F__law_is_number.kp
                   case d1753 => exact T.b__law_is_number
                   case d1754 => exact pass0
                   case d1755 =>
                    with_reducible refine' ma_cons ?d1758 ?d1759 ?d1760
                    case d1758 =>
                     with_reducible refine' me_var ?d1761
                     case d1761 => exact (pvk 0 (NmOk.own ⟨by decide +kernel, by decide +kernel, by decide +kernel, by decide +kernel⟩) (by rfl) (by rfl))
                    case d1759 => exact ma_nil
                    case d1760 => rfl
                   case d1756 => rfl
                   case d1757 => rfl
                  case d1747 => (intro _; rfl)
               case d1739 =>
                intro _ _ _ _
                with_reducible refine' me_var ?d1762
                case d1762 => exact (pvk 0 (NmOk.own ⟨by decide +kernel, by decide +kernel, by decide +kernel, by decide +kernel⟩) (by rfl) (by rfl))
               case d1740 => (intro _; rfl)
              case d1731 => exact ma_nil
              case d1732 => rfl
             case d1728 => rfl
             case d1729 => rfl
           case d1715 => exact (nomark _)
end
end K02
set_option Elab.async false
set_option linter.all false
set_option maxRecDepth 100000
set_option maxHeartbeats 4000000
namespace K02
open PySem L2
local macro_rules | `(tactic| walk_at "e") => `(tactic| (with_reducible first
  | refine e_seq ?_ | refine e_sqN ?_ | refine e_sqR ?_ | refine e_sqB ?_ | refine e_sqC ?_ | refine e_lqN ?_ | refine e_lqC ?_ | refine e_lqB ?_ | refine e_lqR ?_ | refine e_fqR ?_ | refine e_fqN ?_ | refine e_sif ?_ | refine e_asg ?_ | refine e_nm ?_ | refine e_ret ?_ | refine e_retN ?_ | refine e_drop ?_ | refine e_next ?_ | refine e_brk ?_ | refine e_cont ?_
  | refine e_c ?_ | refine e_op ?_ | refine e_un ?_ | refine e_cb ?_ | refine e_call ?_ | refine e_nil ?_ | refine e_cons ?_ | refine e_tV ?_ | refine e_eb ?_ | refine e_tAnd ?_ | refine e_tOr ?_ | refine e_tNot ?_ | refine e_and ?_ | refine e_or ?_ | refine e_not ?_ | refine e_ifE ?_ | refine e_chain ?_ | refine e_tTrue ?_
  | refine ite_t ?_ | refine ite_f ?_ | refine e_oNo ?_ | refine e_oSome ?_ | refine e_sl ?_ | refine e_comp ?_ | refine e_for ?_ | refine e_body ?_ | refine e_gnil ?_ | refine e_gcons ?_
  | (refine e_gtp ?h1 ?_; (case h1 => with_unfolding_all rfl))
  | (refine' e_var ?hv ?_; (case hv => with_unfolding_all rfl))
  | refine ite_nT ?_ | refine ite_nF ?_ | refine p_eqTT ?_ | refine p_eqTF ?_ | refine p_eqFT ?_ | refine p_eqFF ?_ | refine p_neTT ?_ | refine p_neTF ?_ | refine p_neFT ?_ | refine p_neFF ?_ | refine p_isTT ?_ | refine p_isTF ?_ | refine p_isFT ?_ | refine p_isFF ?_ | refine p_isNotTT ?_ | refine p_isNotTF ?_ | refine p_isNotFT ?_ | refine p_isNotFF ?_
  | refine p_addI ?_ | refine p_subI ?_ | refine p_ltI ?_ | refine p_leI ?_ | refine p_gtI ?_ | refine p_geI ?_ | refine p_ltS ?_ | refine p_eqI ?_ | refine p_neI ?_ | refine p_eqS ?_ | refine p_neS ?_ | refine p_eqB ?_ | refine p_neB ?_ | refine p_isN ?_ | refine p_isNotN ?_ | refine p_isB ?_ | refine p_isNotB ?_ | refine p_neg ?_ | refine p_abs ?_ | refine p_intI ?_ | refine p_intB ?_ | refine p_min ?_ | refine p_max ?_
  | refine p_lenL ?_ | refine p_lenT ?_ | refine p_lenC ?_ | refine p_slL ?_ | refine p_slC ?_ | refine p_slT ?_
  | (refine p_ixL ?h1 ?_; (case h1 => with_unfolding_all rfl))
  | (refine p_ixT ?h1 ?_; (case h1 => with_unfolding_all rfl))
  | (refine p_mulI ?h1 ?_; (case h1 => omega))
  | (refine p_mod ?h1 ?_; (case h1 => omega))
  | (refine p_div ?h1 ?_; (case h1 => omega))
  | (refine p_pow ?h1 ?_; (case h1 => decide))
  | refine pi_non_str ?_ | refine pi_non_int ?_ | refine pi_non_bool ?_ | refine pi_non_tuple ?_ | refine pi_non_list ?_ | refine pi_bl_str ?_ | refine pi_bl_int ?_ | refine pi_bl_bool ?_ | refine pi_bl_tuple ?_ | refine pi_bl_list ?_ | refine pi_int_str ?_ | refine pi_int_int ?_ | refine pi_int_bool ?_ | refine pi_int_tuple ?_ | refine pi_int_list ?_ | refine pi_str_str ?_ | refine pi_str_int ?_ | refine pi_str_bool ?_ | refine pi_str_tuple ?_ | refine pi_str_list ?_ | refine pi_tup_str ?_ | refine pi_tup_int ?_ | refine pi_tup_bool ?_ | refine pi_tup_tuple ?_ | refine pi_tup_list ?_ | refine pi_lst_str ?_ | refine pi_lst_int ?_ | refine pi_lst_bool ?_ | refine pi_lst_tuple ?_ | refine pi_lst_list ?_ | refine pi_scr_str ?_ | refine pi_scr_int ?_ | refine pi_scr_bool ?_ | refine pi_scr_tuple ?_ | refine pi_scr_list ?_ | refine pi_dct_str ?_ | refine pi_dct_int ?_ | refine pi_dct_bool ?_ | refine pi_dct_tuple ?_ | refine pi_dct_list ?_
  | (refine e_tup ⟨?h1, ?_⟩; (case h1 => decide))
  | refine e_tup ?_ | refine e_lst ?_ | refine e_lstH ?_))
local macro_rules | `(tactic| walk_at "es") => `(tactic| repeat (walk_at "e"))
def hd (cs : List Int) (a b c : Int) : MO := .lst [.lst (cs.map M.int), .int a, .int b, .int c]
def HandAt (h : HpM) (p : Nat) (c : Int) : Prop := ∃ cs a b, h[p]? = some (hd cs a b c) ∧ (∀ n ∈ cs, 0 ≤ n) ∧ cs.length ≤ 63 ∧ 0 ≤ a ∧ 0 ≤ b ∧ 0 ≤ c
def Kp (p : Nat) (h h' : HpM) : Prop := h'.length = h.length ∧ ∀ q, q ≠ p → h'[q]? = h[q]?
theorem Kp.trans {p : Nat} {h h1 h2 : HpM} (a : Kp p h h1) (b : Kp p h1 h2) : Kp p h h2 := ⟨b.1.trans a.1, fun q hq => (b.2 q hq).trans (a.2 q hq)⟩
theorem Kp.set {p : Nat} {h : HpM} {o : MO} : Kp p h (h.set p o) := ⟨by simp, fun q hq => List.getElem?_set_ne (Ne.symm hq)⟩
theorem set_at {p : Nat} {h : HpM} {o o' : MO} (e : h[p]? = some o) : (h.set p o')[p]? = some o' := List.getElem?_set_self (List.getElem?_eq_some_iff.mp e).1
theorem e_put {o i : FE} {x : M} {ρ : EnvM} {h : HpM} {G : EnvM → HpM → Prop} {k : Nat} {j : Int} {xs : List M} {n : Nat} (ho : o ρ h = some (.ref k, h)) (hi : i ρ h = some (.int j, h)) (e1 : h[k]? = some (.lst xs)) (e2 : ixN xs.length j = some n)
    (q : ∀ h', h'[k]? = some (.lst (xs.set n x)) → Kp k h h' → G ρ h') : Ens (gSubM o i x ρ h) G :=
  e_gsub ⟨_, _, ho, _, _, hi, k, j, xs, n, rfl, rfl, e1, e2, q _ (set_at e1) Kp.set⟩
theorem atM_ints {ns : List Int} {i : Int} (h0 : 0 ≤ i) (h : i < (ns.length : Int)) : ∃ c, c ∈ ns ∧ atI (ns.map M.int) i = some (.int c) := by
  have hk : i.toNat < ns.length := by omega
  have ek : i = ((i.toNat : Nat) : Int) := by omega
  refine ⟨ns[i.toNat], List.getElem_mem hk, ?_⟩
  have z : atI (ns.map M.int) ((i.toNat : Nat) : Int) = some (.int ns[i.toNat]) := atI_nat (by rw [List.getElem?_map, List.getElem?_eq_getElem hk]; rfl)
  rwa [← ek] at z
theorem join {x : Option (Out × HpM)} {S : Out → HpM → Prop} (J : Out → HpM → Prop) (h1 : Ens x J) (h2 : ∀ o h, J o h → S o h) : Ens x S := h1.mono h2
theorem draw_ok {h : HpM} {p : Nat} {c many : Int} {R : M → HpM → Prop} (hh : HandAt h p c) (m1 : 0 < many) (m2 : many < 1073741824) (m3 : c < 1000000000)
    (k : ∀ r h', 0 ≤ r → r < many → HandAt h' p (c + 1) → Kp p h h' → R (.int r) h') : Ens (m__law_draw [.ref p, .int many] h) R := by
  obtain ⟨cs, a, b, e, hcs, hl, ha, hb, hc⟩ := hh
  refine e_fun rfl ?_
  unfold b__law_draw
  walk_at "es"
  refine p_ixR e rfl ?_
  walk_at "es"
  refine e_put (k := p) (j := 3) rfl rfl e rfl fun h1 e1 k1 => ?_
  replace e1 : h1[p]? = some (hd cs a b (c + 1)) := e1
  walk_at "e"
  walk_at "e"
  refine join (fun o h2 => (∃ r, o = .rt (.int r) ∧ 0 ≤ r ∧ r < many ∧ HandAt h2 p (c + 1) ∧ Kp p h h2) ∨ ∃ a2 b2 v2 v3 v4, o = .nx [some (.ref p), some (.int many), v2, v3, v4, none] ∧ 0 ≤ a2 ∧ 0 ≤ b2 ∧ h2[p]? = some (hd cs a2 b2 (c + 1)) ∧ Kp p h h2) ?_ ?_
  · walk_at "es"
    refine p_ixR e1 rfl ?_
    walk_at "es"
    refine ite_b (fun _ => ?_) (fun _ => ?_)
    · walk_at "e"
      walk_at "e"
      walk_at "e"
      walk_at "e"
      walk_at "e"
      walk_at "e"
      refine join (fun o h2 => ∃ n, 0 ≤ n ∧ o = .nx [some (.ref p), some (.int many), some (.int n), none, none, none] ∧ h2 = h1) ?_ ?_
      · walk_at "es"
        refine p_ixR e1 rfl ?_
        walk_at "es"
        refine ite_b (fun hp => ?_) (fun _ => ?_)
        · have hp' : 0 < cs.length := by simpa using of_decide_eq_true hp
          walk_at "es"
          refine p_ixR e1 rfl ?_
          walk_at "es"
          refine p_ixR e1 rfl ?_
          walk_at "es"
          refine p_ixR e1 rfl ?_
          walk_at "e"
          walk_at "e"
          refine p_mod (by simp; omega) ?_
          obtain ⟨n, hn, en⟩ := atM_ints (ns := cs) (i := a % ((cs.map M.int).length : Int)) (Int.emod_nonneg _ (by rw [List.length_map]; omega)) (by have := Int.emod_lt_of_pos a (b := ((cs.map M.int).length : Int)) (by rw [List.length_map]; omega); simpa using this)
          refine p_ixL en ?_
          walk_at "es"
          exact ⟨n, hcs n hn, rfl, rfl⟩
        · walk_at "es"
          exact ⟨0, Int.le_refl _, rfl, rfl⟩
      · rintro o h2 ⟨n, hn, rfl, rfl⟩
        walk_at "es"
        refine p_ixR e1 rfl ?_
        walk_at "es"
        refine e_put (k := p) (j := 1) rfl rfl e1 rfl fun h2 e2 k2 => ?_
        replace e2 : h2[p]? = some (hd cs (a + 1) b (c + 1)) := e2
        walk_at "e"
        walk_at "e"
        refine join (fun o h3 => (∃ r, o = .rt (.int r) ∧ 0 ≤ r ∧ r < many ∧ h3 = h2) ∨ (o = .nx [some (.ref p), some (.int many), some (.int n), none, none, none] ∧ h3 = h2)) ?_ ?_
        · walk_at "e"
          refine Ens.mono (Q := fun _ h3 => h3 = h2) ?_ fun t h3 e => ?_
          · walk_at "es"
            refine ite_b (fun _ => rfl) (fun _ => ?_)
            walk_at "es"
            refine p_ixR e2 rfl ?_
            walk_at "es"
            refine p_ixR e2 rfl ?_
            walk_at "es"
            rfl
          · subst e
            refine ite_b (fun _ => ?_) (fun _ => ?_)
            · walk_at "es"
              refine p_ixR e2 rfl ?_
              walk_at "es"
              refine p_ixR e2 rfl ?_
              walk_at "es"
              refine p_ixR e2 rfl ?_
              walk_at "es"
              refine p_ixR e2 rfl ?_
              walk_at "es"
              exact .inl ⟨_, rfl, Int.emod_nonneg _ (by omega), Int.emod_lt_of_pos _ m1, rfl⟩
            · walk_at "es"
              exact .inr ⟨rfl, rfl⟩
        · rintro o h3 (⟨r, rfl, r0, r1, rfl⟩ | ⟨rfl, rfl⟩)
          · exact .inl ⟨r, rfl, r0, r1, ⟨cs, _, _, e2, hcs, hl, by omega, hb, by omega⟩, k1.trans k2⟩
          · walk_at "es"
            refine e_put (k := p) (j := 2) rfl rfl e2 rfl fun h3 e3 k3 => ?_
            exact .inr ⟨_, _, _, _, _, rfl, by omega, hn, e3, (k1.trans k2).trans k3⟩
    · walk_at "es"
      exact .inr ⟨a, b, _, _, _, rfl, ha, hb, e1, k1⟩
  · rintro o h2 (⟨r, rfl, r0, r1, hh2, k2⟩ | ⟨a2, b2, v2, v3, v4, rfl, ha2, hb2, e2, k2⟩)
    · exact k r h2 r0 r1 hh2 k2
    · walk_at "es"
      refine p_ixR e2 rfl ?_
      walk_at "es"
      refine p_ixR e2 rfl ?_
      walk_at "es"
      refine e_put (k := p) (j := 2) rfl rfl e2 rfl fun h3 e3 k3 => ?_
      walk_at "es"
      exact k _ _ (Int.emod_nonneg _ (by omega)) (Int.emod_lt_of_pos _ m1) ⟨cs, a2, _, e3, hcs, hl, ha2, Int.ediv_nonneg hb2 (by omega), by omega⟩ (k2.trans k3)

def IsVal (v : M) : Prop := (∃ i, v = .int i) ∨ ∃ z : Str, v = .str z ∧ z.length ≤ 100
def ltV : M → M → Bool
  | .int i, .int j => decide (i < j)
  | .int _, .str _ => true
  | .str a, .str b => decide (a.cps.toList < b.cps.toList)
  | _, _ => false
theorem isnum_i {i : Int} {h : HpM} {R : M → HpM → Prop} (k : R (.bl true) h) : Ens (m__law_is_number [.int i] h) R := by
  refine e_fun rfl ?_
  unfold b__law_is_number
  walk_at "es"; exact k
theorem isnum_s {i : Str} {h : HpM} {R : M → HpM → Prop} (k : R (.bl false) h) : Ens (m__law_is_number [.str i] h) R := by
  refine e_fun rfl ?_
  unfold b__law_is_number
  walk_at "es"; exact k
theorem before_ok {x y : M} {h : HpM} {R : M → HpM → Prop} (hx : IsVal x) (hy : IsVal y) (k : R (.bl (ltV x y)) h) : Ens (m_before [x, y] h) R := by
  refine e_fun rfl ?_
  unfold b_before
  rcases hx with ⟨i, rfl⟩ | ⟨z, rfl, _⟩ <;> rcases hy with ⟨j, rfl⟩ | ⟨w, rfl, _⟩
  · walk_at "es"; refine e_fun rfl ?_; unfold b_same_sort; walk_at "es"; exact k
  · walk_at "es"; refine e_fun rfl ?_; unfold b_same_sort; walk_at "es"; exact k
  · walk_at "es"; refine e_fun rfl ?_; unfold b_same_sort; walk_at "es"; exact k
  · walk_at "es"; refine e_fun rfl ?_; unfold b_same_sort; walk_at "es"; exact k
theorem lex_ne {x y : Nat} (hn : x ≠ y) : ∀ (w : List Nat) {u v : List Nat}, (w ++ x :: u < w ++ y :: v) ↔ x < y
  | [], u, v => by rw [List.nil_append, List.nil_append, List.cons_lt_cons_iff]; omega
  | a :: w, u, v => by rw [List.cons_append, List.cons_append, List.cons_lt_cons_iff, lex_ne hn w]; simp
theorem lex_pre : ∀ (u v : List Nat), (∀ i, i < u.length → i < v.length → u[i]? = v[i]?) → ((u < v) ↔ u.length < v.length)
  | [], [], _ => by simp
  | [], y :: v, _ => by simp
  | x :: u, [], _ => by simp
  | x :: u, y :: v, h => by
    have h0 : x = y := by simpa using h 0 (by simp) (by simp)
    subst h0
    rw [List.cons_lt_cons_iff, lex_pre u v fun i h1 h2 => by simpa using h (i + 1) (by simpa using h1) (by simpa using h2)]
    simp
theorem ahead_ok {x y : M} {h : HpM} {R : M → HpM → Prop} (hx : IsVal x) (hy : IsVal y) (k : R (.bl (ltV x y)) h) : Ens (m__law_ahead [x, y] h) R := by
  refine e_fun rfl ?_
  unfold b__law_ahead
  rcases hx with ⟨i, rfl⟩ | ⟨z, rfl, hz⟩ <;> rcases hy with ⟨j, rfl⟩ | ⟨w, rfl, hw⟩
  · walk_at "es"
    refine isnum_i ?_
    walk_at "es"
    refine isnum_i ?_
    walk_at "es"
    refine isnum_i ?_
    walk_at "es"
    have e : decide (0 < j - i) = decide (i < j) := decide_eq_decide.mpr (by omega)
    rw [e]; exact k
  · walk_at "es"
    refine isnum_i ?_
    walk_at "es"
    refine isnum_s ?_
    walk_at "es"
    refine isnum_i ?_
    walk_at "es"
    exact k
  · walk_at "es"
    refine isnum_s ?_
    walk_at "es"
    refine isnum_i ?_
    walk_at "es"
    refine isnum_s ?_
    walk_at "es"
    exact k
  · walk_at "es"
    refine isnum_s ?_
    walk_at "es"
    refine isnum_s ?_
    walk_at "es"
    refine isnum_s ?_
    walk_at "es"
    refine e_iZip ?_
    walk_at "es"
    refine ⟨_, _, _, _, rfl, rfl, rfl, ?_⟩
    have hlen : (List.zipWith (fun u v => M.tup [u, v]) (z.cps.toList.map fun c => M.str ⟨#[c]⟩) (w.cps.toList.map fun c => M.str ⟨#[c]⟩)).length = min z.cps.toList.length w.cps.toList.length := by simp
    refine e_over (fun i ρ h' => (∃ v2 v3, ρ = [some (.str z), some (.str w), v2, v3]) ∧ h' = h ∧ ∀ j, j < i → z.cps.toList[j]? = w.cps.toList[j]?) ⟨⟨_, _, rfl⟩, rfl, fun j hj => by omega⟩ ?_ ?_
    · rintro i x ρ h' hxi ⟨⟨v2, v3, rfl⟩, rfl, hi⟩
      rw [List.getElem?_zipWith, List.getElem?_map, List.getElem?_map] at hxi
      cases qz : z.cps.toList[i]? with
      | none => rw [qz] at hxi; cases hxi
      | some cz =>
        cases qw : w.cps.toList[i]? with
        | none => rw [qz, qw] at hxi; cases hxi
        | some cw =>
          rw [qz, qw] at hxi
          cases hxi
          dsimp only
          walk_at "es"
          refine ite_b (fun hne => ?_) (fun heq => ?_)
          · walk_at "es"
            refine p_ord rfl ?_
            walk_at "es"
            refine p_ord rfl ?_
            walk_at "es"
            have hne' : cz ≠ cw := by
              intro e; subst e; simp at hne
            have hsplit : ∀ (l : List Nat) (c : Nat), l[i]? = some c → l = l.take i ++ c :: l.drop (i + 1) := fun l c hc => by
              obtain ⟨hlt, hg⟩ := List.getElem?_eq_some_iff.mp hc
              have e := List.drop_eq_getElem_cons hlt
              rw [hg] at e
              rw [← e, List.take_append_drop]
            have htake : z.cps.toList.take i = w.cps.toList.take i := by
              apply List.ext_getElem?
              intro j
              by_cases hj : j < i
              · rw [List.getElem?_take_of_lt hj, List.getElem?_take_of_lt hj]; exact hi j hj
              · rw [List.getElem?_take, List.getElem?_take]; simp [hj]
            have e : decide (((((#[cz] : Array Nat).getD 0 0 : Nat)) : Int) < (((#[cw] : Array Nat).getD 0 0 : Nat) : Int)) = decide (z.cps.toList < w.cps.toList) := by
              apply decide_eq_decide.mpr
              rw [hsplit _ _ qz, hsplit _ _ qw, htake, lex_ne hne']
              simp
            show FQ R (.rt (.bl _)) _
            rw [e]
            exact k
          · walk_at "es"
            refine ⟨⟨_, _, rfl⟩, rfl, fun j hj => ?_⟩
            by_cases hji : j < i
            · exact hi j hji
            · have : j = i := by omega
              subst this
              rw [qz, qw]
              have : (⟨#[cz]⟩ : Str) = ⟨#[cw]⟩ := by simpa using heq
              simpa using this
    · rintro ρ h' ⟨⟨v2, v3, rfl⟩, rfl, hi⟩
      rw [hlen] at hi
      walk_at "es"
      refine p_lenS (by omega) ?_
      walk_at "es"
      refine p_lenS (by omega) ?_
      walk_at "es"
      have e : decide ((z.length : Int) < (w.length : Int)) = decide (z.cps.toList < w.cps.toList) := by
        apply decide_eq_decide.mpr
        rw [lex_pre _ _ fun j h1 h2 => hi j (by omega)]
        simp [Str.length]
      rw [e]
      exact k
theorem says_ok {a b : Bool} {h : HpM} {R : M → HpM → Prop} (k : R (.bl (a == b)) h) : Ens (m__law_says [.bl a, .bl b] h) R := by
  refine e_fun rfl ?_
  unfold b__law_says
  walk_at "es"
  exact k
def leV (x y : M) : Bool := !ltV y x
theorem leV_trans {x y z : M} (hx : IsVal x) (hy : IsVal y) (hz : IsVal z) (h1 : leV x y = true) (h2 : leV y z = true) : leV x z = true := by
  rcases hx with ⟨i, rfl⟩ | ⟨a, rfl, _⟩ <;> rcases hy with ⟨j, rfl⟩ | ⟨b, rfl, _⟩ <;> rcases hz with ⟨k, rfl⟩ | ⟨c, rfl, _⟩ <;> simp only [leV, ltV, Bool.not_true, Bool.not_false, Bool.not_eq_true', decide_eq_false_iff_not] at h1 h2 ⊢
  all_goals first | omega | exact Bool.noConfusion h1 | exact Bool.noConfusion h2 | exact List.le_trans h1 h2
theorem leV_anti {x y : M} (hx : IsVal x) (hy : IsVal y) (h1 : leV x y = true) (h2 : leV y x = true) : x = y := by
  rcases hx with ⟨i, rfl⟩ | ⟨a, rfl, _⟩ <;> rcases hy with ⟨j, rfl⟩ | ⟨b, rfl, _⟩ <;> simp only [leV, ltV, Bool.not_true, Bool.not_false, Bool.not_eq_true', decide_eq_false_iff_not] at h1 h2
  · have : i = j := by omega
    rw [this]
  · cases h2
  · cases h1
  · rw [leS_anti a b (by simpa [leS] using h1) (by simpa [leS] using h2)]
theorem ltV_le {x y : M} (hx : IsVal x) (hy : IsVal y) (h : ltV x y = true) : leV x y = true := by
  rcases hx with ⟨i, rfl⟩ | ⟨a, rfl, _⟩ <;> rcases hy with ⟨j, rfl⟩ | ⟨b, rfl, _⟩ <;> simp only [leV, ltV, Bool.not_true, Bool.not_false, Bool.not_eq_true', decide_eq_false_iff_not, decide_eq_true_eq] at h ⊢
  all_goals first | omega | exact Bool.noConfusion h | exact List.lt_asymm h
def cutAt (v : M) : List M → Nat
  | [] => 0
  | x :: r => if ltV v x = true then 0 else cutAt v r + 1
def ins (v : M) (row : List M) : List M := row.take (cutAt v row) ++ [v] ++ row.drop (cutAt v row)
theorem cutAt_le (v : M) : ∀ row, cutAt v row ≤ row.length
  | [] => Nat.le_refl _
  | x :: r => by unfold cutAt; split; exact Nat.zero_le _; exact Nat.succ_le_succ (cutAt_le v r)
theorem cutAt_pre (v : M) : ∀ (row : List M) (i : Nat) (x : M), i < cutAt v row → row[i]? = some x → ltV v x = false
  | [], i, x, h, _ => by simp [cutAt] at h
  | y :: r, i, x, h, e => by
    unfold cutAt at h
    split at h
    · omega
    · rename_i hy
      cases i with
      | zero => simp at e; subst e; simpa using hy
      | succ i => exact cutAt_pre v r i x (by omega) (by simpa using e)
theorem cutAt_stop (v : M) : ∀ (row : List M) (x : M), row[cutAt v row]? = some x → ltV v x = true
  | [], x, h => by simp at h
  | y :: r, x, h => by
    unfold cutAt at h
    split at h
    · rename_i hy; simp at h; subst h; exact hy
    · exact cutAt_stop v r x (by simpa using h)
theorem putin_ok {row : List M} {v : M} {h : HpM} {R : M → HpM → Prop} (hl : row.length ≤ 1000) (hv : IsVal v) (hr : ∀ x ∈ row, IsVal x) (k : R (.lst (ins v row)) h) : Ens (m__law_put_in [.lst row, v] h) R := by
  refine e_fun rfl ?_
  unfold b__law_put_in
  walk_at "es"
  refine e_while (fun ρ h' => ∃ n : Nat, ρ = [some (.lst row), some v, some (.int n)] ∧ h' = h ∧ n ≤ cutAt v row) (fun ρ _ => match ρ with | [_, _, some (.int n)] => (cutAt v row) - n.toNat | _ => 0) ?_ ⟨0, rfl, rfl, Nat.zero_le _⟩ (by
    show cutAt v row - 0 < 1000000
    have := cutAt_le v row; omega)
  rintro ρ h' ⟨n, rfl, rfl, hn⟩
  have hcl := cutAt_le v row
  have fin : ∀ (h2 : HpM), n = cutAt v row → h2 = h' → SQ (sRet (mOp opAdd (mOp opAdd (mSl slM (mVar 0) oNo (oSome (mVar 2))) (mLst (mCons (mVar 1) mNil))) (mSl slM (mVar 0) (oSome (mVar 2)) oNo))) (FQ R) (.nx [some (.lst row), some v, some (.int n)]) h2 := by
    rintro h2 en rfl
    walk_at "es"
    refine ⟨_, rfl, ?_⟩
    walk_at "es"
    refine ⟨by simp, ?_⟩
    have hcut : cutM row none (some (n : Int)) = row.take n := by
      unfold cutM; rw [HT.sIx_none, HT.sIx_nat, Nat.min_eq_left (by omega)]; simp
    have hcut2 : cutM row (some (n : Int)) none = row.drop n := by
      unfold cutM; rw [HT.sIx_none, HT.sIx_nat, Nat.min_eq_left (by omega)]
      rw [List.take_of_length_le (by rw [List.length_drop]; exact Nat.le_refl _)]
    rw [hcut]
    refine p_addL (by simp; omega) ?_
    walk_at "es"
    refine ⟨_, rfl, ?_⟩
    walk_at "es"
    rw [hcut2]
    refine p_addL (by simp; omega) ?_
    walk_at "es"
    have e : row.take n ++ [v] ++ row.drop n = ins v row := by unfold ins; rw [en]
    rw [e]
    exact k
  walk_at "es"
  refine ite_b (fun hlt => ?_) (fun hge => ?_)
  · have hlt' : n < row.length := by simpa using of_decide_eq_true hlt
    have hx : row[n]? = some row[n] := by simp [hlt']
    walk_at "es"
    refine p_ixL (atI_nat hx) ?_
    walk_at "es"
    refine before_ok hv (hr _ (List.getElem_mem hlt')) ?_
    walk_at "es"
    refine ite_b (fun hb => ?_) (fun hb => ?_)
    · have hb' : ltV v row[n] = false := by simpa using hb
      have hne : n ≠ cutAt v row := by
        intro e
        have := cutAt_stop v row row[n] (by rw [← e]; exact hx)
        rw [hb'] at this; cases this
      walk_at "es"
      refine ⟨⟨n + 1, rfl, rfl, by omega⟩, ?_⟩
      show cutAt v row - ((n : Int) + 1).toNat < cutAt v row - (n : Int).toNat
      omega
    · have hb' : ltV v row[n] = true := by simpa using hb
      refine fin _ ?_ rfl
      by_cases e : n = cutAt v row
      · exact e
      · have := cutAt_pre v row n row[n] (by omega) hx
        rw [hb'] at this; cases this
  · have hge' : ¬ n < row.length := by simpa using of_decide_eq_false hge
    exact fin _ (by omega) rfl
theorem ins_perm (v : M) (row : List M) : (ins v row).Perm (v :: row) := by
  unfold ins
  rw [List.append_assoc, List.singleton_append]
  refine List.perm_middle.trans ?_
  rw [List.take_append_drop]
theorem ins_sorted {v : M} {row : List M} (hv : IsVal v) (hr : ∀ x ∈ row, IsVal x) (hs : row.Pairwise (fun a b => leV a b = true)) : (ins v row).Pairwise (fun a b => leV a b = true) := by
  unfold ins
  have h1 : ∀ x ∈ row.take (cutAt v row), leV x v = true := fun x hx => by
    obtain ⟨i, hi⟩ := List.getElem?_of_mem hx
    have hlt : i < cutAt v row := by have := (List.getElem?_eq_some_iff.mp hi).1; rw [List.length_take] at this; omega
    rw [List.getElem?_take_of_lt hlt] at hi
    have := cutAt_pre v row i x hlt hi
    unfold leV; rw [this]; rfl
  have h2 : ∀ y ∈ row.drop (cutAt v row), leV v y = true := fun y hy => by
    have hs' : (row.drop (cutAt v row)).Pairwise (fun a b => leV a b = true) := hs.sublist (List.drop_sublist _ _)
    cases hd : row.drop (cutAt v row) with
    | nil => rw [hd] at hy; cases hy
    | cons z r =>
      have hz : row[cutAt v row]? = some z := by
        have := congrArg (fun l : List M => l[0]?) hd
        simpa using this
      have hvz := cutAt_stop v row z hz
      have mz : z ∈ row := List.mem_of_getElem? hz
      have vz : leV v z = true := ltV_le hv (hr z mz) hvz
      rw [hd] at hy hs'
      rcases List.mem_cons.mp hy with rfl | hy
      · exact vz
      · have my : y ∈ row := List.mem_of_mem_drop (by rw [hd]; exact List.mem_cons_of_mem _ hy)
        exact leV_trans hv (hr z mz) (hr y my) vz (List.rel_of_pairwise_cons hs' hy)
  rw [List.append_assoc, List.singleton_append, List.pairwise_append]
  refine ⟨hs.sublist (List.take_sublist _ _), List.pairwise_cons.mpr ⟨h2, hs.sublist (List.drop_sublist _ _)⟩, fun x hx y hy => ?_⟩
  rcases List.mem_cons.mp hy with rfl | hy
  · exact h1 x hx
  · exact leV_trans (hr x (List.mem_of_mem_take hx)) hv (hr y (List.mem_of_mem_drop hy)) (h1 x hx) (h2 y hy)
theorem val_str {z : Str} (h : z.length ≤ 100) : IsVal (.str z) := .inr ⟨z, rfl, h⟩
theorem val_int {i : Int} : IsVal (.int i) := .inl ⟨i, rfl⟩
theorem value_ok {h : HpM} {p : Nat} {c : Int} {R : M → HpM → Prop} (hh : HandAt h p c) (hc : c < 900000000)
    (k : ∀ v h', IsVal v → HandAt h' p (c + 6) → Kp p h h' → R v h') : Ens (m__law_value [.ref p] h) R := by
  refine e_fun rfl ?_
  unfold b__law_value
  walk_at "es"
  refine draw_ok hh (by decide) (by decide) (by omega) fun r1 h1 r10 r11 hh1 k1 => ?_
  walk_at "es"
  refine ⟨by simp, ?_⟩
  walk_at "es"
  refine draw_ok hh1 (by decide) (by decide) (by omega) fun r2 h2 r20 r21 hh2 k2 => ?_
  obtain ⟨far, mfar, efar⟩ := at_mem (xs := [M.int (10 ^ (12 : Int).toNat - 1), .int (1 - 10 ^ (12 : Int).toNat), .int (10 ^ (11 : Int).toNat + r1)]) (i := r2) r20 (by simpa using r21)
  refine p_ixL efar ?_
  have vfar : IsVal far := by
    simp only [List.mem_cons, List.not_mem_nil, or_false] at mfar
    rcases mfar with rfl | rfl | rfl <;> exact val_int
  walk_at "es"
  refine ⟨by simp, ?_⟩
  walk_at "es"
  refine draw_ok hh2 (by decide) (by decide) (by omega) fun r3 h3 r30 r31 hh3 k3 => ?_
  walk_at "es"
  refine draw_ok hh3 (by decide) (by decide) (by omega) fun r4 h4 r40 r41 hh4 k4 => ?_
  walk_at "es"
  refine draw_ok hh4 (by decide) (by decide) (by omega) fun r5 h5 r50 r51 hh5 k5 => ?_
  obtain ⟨tx, mtx, etx⟩ := at_mem (xs := [M.str "", .str "b", .str "aa", .str "B", .str "ab c", .str "12", .str "-3", .str "~", .str " ", .str "a", .str "zzzzzzzzzzzzzzzzzzzz", .str "0"]) (i := r5) r50 (by simpa using r51)
  refine p_ixL etx ?_
  have vtx : IsVal tx := by
    simp only [List.mem_cons, List.not_mem_nil, or_false] at mtx
    rcases mtx with rfl | rfl | rfl | rfl | rfl | rfl | rfl | rfl | rfl | rfl | rfl | rfl <;> exact val_str (by decide +kernel)
  walk_at "es"
  refine ⟨by simp, ?_⟩
  walk_at "es"
  refine ⟨by simp, ?_⟩
  walk_at "es"
  refine draw_ok hh5 (by decide) (by decide) (by omega) fun r6 h6 r60 r61 hh6 k6 => ?_
  obtain ⟨ix, mix, eix⟩ := at_mem (xs := [M.int 0, .int 1, .int 2, .int 3, .int 3]) (i := r6) r60 (by simpa using r61)
  refine p_ixL eix ?_
  have hix : ∃ i : Int, ix = .int i ∧ 0 ≤ i ∧ i < 4 := by
    simp only [List.mem_cons, List.not_mem_nil, or_false] at mix
    rcases mix with rfl | rfl | rfl | rfl | rfl <;> exact ⟨_, rfl, by decide, by decide⟩
  obtain ⟨i, rfl, i0, i1⟩ := hix
  obtain ⟨v, mv, ev⟩ := at_mem (xs := [M.int r3, .int (r4 - 1000), far, tx]) (i := i) i0 (by simpa using i1)
  refine p_ixL ev ?_
  walk_at "es"
  have vv : IsVal v := by
    simp only [List.mem_cons, List.not_mem_nil, or_false] at mv
    rcases mv with rfl | rfl | rfl | rfl
    · exact val_int
    · exact val_int
    · exact vfar
    · exact vtx
  exact k v h6 vv (by have : c + 1 + 1 + 1 + 1 + 1 + 1 = c + 6 := by omega
                      rw [← this]; exact hh6) (((((k1.trans k2).trans k3).trans k4).trans k5).trans k6)
theorem take_succ' {α : Type} {l : List α} {i : Nat} {x : α} (h : l[i]? = some x) : l.take (i + 1) = l.take i ++ [x] := by rw [List.take_add_one, h]; rfl
theorem cut63 {ns : List Int} (hl : ns.length ≤ 63) : cutM (ns.map M.int) none (some 63) = ns.map M.int := by
  unfold cutM
  have := HT.sIx_nat (ns.map M.int).length (ns.map M.int).length 63
  rw [HT.sIx_none]
  have e : HT.sIx (ns.map M.int).length (ns.map M.int).length (some 63) = (ns.map M.int).length := by
    have h2 : ((63 : Nat) : Int) = 63 := rfl
    rw [h2] at this
    rw [this]; simp; omega
  rw [e, List.drop_zero, Nat.sub_zero, List.take_length]
def ab (n : Int) : Int := if n < 0 then -n else n
theorem hand_ok {ns : List Int} {h : HpM} {R : M → HpM → Prop} (hl : ns.length ≤ 63) (k : HandAt (h ++ [hd (ns.map ab) 0 0 0]) h.length 0 → R (.ref h.length) (h ++ [hd (ns.map ab) 0 0 0])) : Ens (m__law_hand [.scr ns] h) R := by
  refine e_fun rfl ?_
  unfold b__law_hand
  walk_at "es"
  refine e_iL ?_
  walk_at "es"
  refine ⟨_, rfl, ?_⟩
  walk_at "es"
  refine ⟨_, rfl, ?_⟩
  rw [cut63 hl]
  refine ⟨by simp; omega, ?_⟩
  refine e_over2 (fun i acc h' => acc = ((ns.take i).map ab).map M.int ∧ h' = h) ⟨by simp, rfl⟩ ?_ ?_
  · rintro i x acc h' hx ⟨rfl, rfl⟩
    rw [List.getElem?_map] at hx
    cases q : ns[i]? with
    | none => rw [q] at hx; cases hx
    | some n =>
      rw [q] at hx
      cases hx
      walk_at "es"
      refine ⟨?_, rfl⟩
      rw [take_succ' q]
      simp [ab]
  · rintro acc h' ⟨rfl, rfl⟩
    walk_at "es"
    refine ⟨by simp, ?_⟩
    have e : ((ns.take (ns.map M.int).length).map ab).map M.int = (ns.map ab).map M.int := by simp
    rw [e]
    walk_at "es"
    refine k ⟨ns.map ab, 0, 0, by simp, fun n hn => ?_, by simpa using hl, by omega, by omega, by omega⟩
    obtain ⟨m, _, rfl⟩ := List.mem_map.mp hn
    unfold ab
    split <;> omega
def vD : M → D
  | .int i => .int i
  | .str z => .str z
  | _ => .non
theorem toDs_val {h : HpM} : ∀ {xs : List M}, (∀ x ∈ xs, IsVal x) → toDBs (lookD h 20) xs = some (xs.map vD)
  | [], _ => rfl
  | x :: xs, hx => by
    unfold toDBs
    rw [toDs_val fun y hy => hx y (List.mem_cons_of_mem _ hy)]
    rcases hx x List.mem_cons_self with ⟨i, rfl⟩ | ⟨z, rfl, _⟩ <;> rfl
theorem deeps_val : ∀ {xs : List M}, (∀ x ∈ xs, IsVal x) → D.deeps (xs.map vD) = 0
  | [], _ => rfl
  | x :: xs, hx => by
    rw [List.map_cons]
    unfold D.deeps
    rw [deeps_val fun y hy => hx y (List.mem_cons_of_mem _ hy)]
    rcases hx x List.mem_cons_self with ⟨i, rfl⟩ | ⟨z, rfl, _⟩ <;> rfl
theorem p_eqSelf {xs : List M} {h : HpM} {R : M → Prop} (hx : ∀ x ∈ xs, IsVal x) (q : R (.bl true)) : Enp (opEq (.lst xs) (.lst xs) h) R := by
  have e : toD h (.lst xs) = some (.lst (xs.map vD)) := by
    unfold toD
    rw [toDB, toDs_val hx]; rfl
  refine ⟨.bl true, ?_, q⟩
  unfold opEq
  rw [e]
  show (if D.deep (.lst (xs.map vD)) ≤ 150 then _ else _) = _
  rw [if_pos (by rw [D.deep, deeps_val hx]; decide), deq_refl]
def iI : M → Option Int
  | .int i => some i
  | _ => none
def iS' : M → Option Str
  | .str z => some z
  | _ => none
theorem split_perm : ∀ {xs : List M}, (∀ x ∈ xs, IsVal x) → ((xs.filterMap iI).map M.int ++ (xs.filterMap iS').map M.str).Perm xs
  | [], _ => .nil
  | x :: xs, hx => by
    have ih := split_perm (xs := xs) fun y hy => hx y (List.mem_cons_of_mem _ hy)
    rcases hx x List.mem_cons_self with ⟨i, rfl⟩ | ⟨z, rfl, _⟩
    · exact ih.cons _
    · refine List.Perm.trans ?_ (ih.cons (.str z))
      exact List.perm_middle
theorem perm_uniq {xs ys : List M} (hx : ∀ x ∈ xs, IsVal x) (p : xs.Perm ys) (sx : xs.Pairwise (fun a b => leV a b = true)) (sy : ys.Pairwise (fun a b => leV a b = true)) : xs = ys := by
  induction xs generalizing ys with
  | nil => rw [List.Perm.eq_nil p.symm]
  | cons x xs ih =>
    cases ys with
    | nil => have := p.eq_nil; cases this
    | cons y ys =>
      have hy : ∀ z ∈ y :: ys, IsVal z := fun z hz => hx z (p.mem_iff.mpr hz)
      have hxy : x = y := by
        have m1 : x ∈ y :: ys := p.mem_iff.mp List.mem_cons_self
        have m2 : y ∈ x :: xs := p.mem_iff.mpr List.mem_cons_self
        rcases List.mem_cons.mp m1 with e | e
        · exact e
        · rcases List.mem_cons.mp m2 with e' | e'
          · exact e'.symm
          · exact leV_anti (hx x List.mem_cons_self) (hy y List.mem_cons_self) (List.rel_of_pairwise_cons sx e') (List.rel_of_pairwise_cons sy e)
      subst hxy
      rw [ih (fun z hz => hx z (List.mem_cons_of_mem _ hz)) ((List.perm_cons x).mp p) (List.Pairwise.of_cons sx) (List.Pairwise.of_cons sy)]
theorem rows_same {vs row : List M} (hv : ∀ x ∈ vs, IsVal x) (p : row.Perm vs) (sr : row.Pairwise (fun a b => leV a b = true)) : (sortI (vs.filterMap iI)).map M.int ++ (sortS (vs.filterMap iS')).map M.str = row := by
  have pI : ((sortI (vs.filterMap iI)).map M.int).Perm ((vs.filterMap iI).map M.int) := (List.mergeSort_perm _ leI).map _
  have pS : ((sortS (vs.filterMap iS')).map M.str).Perm ((vs.filterMap iS').map M.str) := (List.mergeSort_perm _ leS).map _
  have pA := (pI.append pS).trans (split_perm hv)
  refine perm_uniq (fun x hx => hv x (pA.mem_iff.mp hx)) (pA.trans p.symm) ?_ sr
  rw [List.pairwise_append]
  refine ⟨?_, ?_, fun x hx y hy => ?_⟩
  · rw [List.pairwise_map]
    exact (sortI_pw _).imp fun {a b} h => by simp [leI] at h; simp [leV, ltV]; omega
  · rw [List.pairwise_map]
    exact (sortS_pw _).imp fun {a b} h => by simpa [leS, leV, ltV] using h
  · obtain ⟨i, _, rfl⟩ := List.mem_map.mp hx
    obtain ⟨z, _, rfl⟩ := List.mem_map.mp hy
    rfl
theorem intsM_map : ∀ (ns : List Int), intsM (ns.map M.int) = some ns
  | [] => rfl
  | n :: ns => by show (intsM (ns.map M.int)).map (n :: ·) = _; rw [intsM_map ns]; rfl
theorem strsM_map : ∀ (ns : List Str), strsM (ns.map M.str) = some ns
  | [] => rfl
  | n :: ns => by show (strsM (ns.map M.str)).map (n :: ·) = _; rw [strsM_map ns]; rfl
theorem p_sortI {ns : List Int} {h : HpM} {R : M → Prop} (hl : ns.length < 64) (q : R (.lst ((sortI ns).map .int))) : Enp (bSorted [.lst (ns.map M.int)] h) R := by
  refine ⟨_, ?_, q⟩
  show (if (ns.map M.int).length < 64 then _ else _) = _
  rw [if_pos (by simpa using hl), intsM_map]
theorem p_sortS {ss : List Str} {h : HpM} {R : M → Prop} (hl : ss.length < 64) (q : R (.lst ((sortS ss).map .str))) : Enp (bSorted [.lst (ss.map M.str)] h) R := by
  refine ⟨_, ?_, q⟩
  show (if (ss.map M.str).length < 64 then _ else _) = _
  rw [if_pos (by simpa using hl)]
  cases ss with
  | nil => simp [intsM, sortI, sortS]
  | cons z r =>
    show (strsM ((z :: r).map M.str)).map _ = _
    rw [strsM_map]; rfl
theorem law_true (ns : List Int) (hl : ns.length ≤ 63) : ∃ h', m_law [.scr ns] [] = some (.bl true, h') := by
  suffices z : Ens (m_law [.scr ns] []) fun d _ => d = .bl true by
    obtain ⟨d, h', e, rfl⟩ := z
    exact ⟨h', e⟩
  refine e_fun rfl ?_
  unfold b_law
  walk_at "es"
  refine hand_ok hl fun hh => ?_
  generalize [] ++ [hd (ns.map ab) 0 0 0] = h0 at hh ⊢
  walk_at "es"
  refine draw_ok hh (by decide) (by decide) (by decide) fun r1 h1 r10 r11 hh1 k1 => ?_
  walk_at "e"
  walk_at "e"
  walk_at "e"
  walk_at "e"
  refine join (fun o h' => ∃ m : Int, o = .nx [some (.scr ns), some (.ref 0), some (.int m), none, none, none, none, none] ∧ 2 ≤ m ∧ m ≤ 20 ∧ HandAt h' 0 2) ?_ ?_
  · walk_at "es"
    refine draw_ok hh1 (by decide) (by decide) (by omega) fun r2 h2 r20 r21 hh2 k2 => ?_
    walk_at "es"
    refine ite_b (fun _ => ?_) (fun _ => ?_)
    · walk_at "es"
      exact ⟨20, rfl, by decide, by decide, hh2⟩
    · walk_at "es"
      exact ⟨2 + r1, rfl, by omega, by omega, hh2⟩
  rintro o h2 ⟨m, rfl, m2, m20, hh2⟩
  walk_at "es"
  refine e_iR1 ?_
  walk_at "es"
  refine ⟨m, rfl, by omega, by simp; omega, ?_⟩
  refine e_over2 (fun i acc h' => acc.length = i ∧ (∀ x ∈ acc, IsVal x) ∧ HandAt h' 0 (2 + 6 * (i : Int))) ⟨rfl, by simp, by simpa using hh2⟩ ?_ ?_
  · rintro i x acc h' hx ⟨rfl, hv, hh'⟩
    have hi : acc.length < 20 := by
      have := (List.getElem?_eq_some_iff.mp hx).1
      simp at this; omega
    walk_at "es"
    refine value_ok hh' (by omega) fun v h3 vv hh3 k3 => ⟨by simp, fun y hy => ?_, ?_⟩
    · rcases List.mem_append.mp hy with hy | hy
      · exact hv y hy
      · rw [List.mem_singleton.mp hy]; exact vv
    · have : (2 : Int) + 6 * ((acc.length + 1 : Nat) : Int) = 2 + 6 * (acc.length : Int) + 6 := by omega
      rw [this]; exact hh3
  rintro vs h3 ⟨hvl, hv, hh3⟩
  have hvl' : vs.length ≤ 20 := by simp at hvl; omega
  walk_at "es"
  refine ⟨by simp, ?_⟩
  walk_at "es"
  refine e_iL ?_
  walk_at "es"
  refine ⟨vs, rfl, ?_⟩
  have hv3 : ∀ x ∈ vs ++ [M.int 0, .str "", .str "0"], IsVal x := fun x hx => by
    rcases List.mem_append.mp hx with hx | hx
    · exact hv x hx
    · simp only [List.mem_cons, List.not_mem_nil, or_false] at hx
      rcases hx with rfl | rfl | rfl
      · exact val_int
      · exact val_str (by decide +kernel)
      · exact val_str (by decide +kernel)
  refine e_over (fun i ρ h' => ∃ row v5 v6, ρ = [some (.scr ns), some (.ref 0), some (.int m), some (.lst vs), some (.lst row), v5, v6, none] ∧ row.Perm (vs.take i) ∧ row.Pairwise (fun a b => leV a b = true)) ⟨[], _, _, rfl, by simp, .nil⟩ ?_ ?_
  · rintro i x ρ h' hx ⟨row, v5, v6, rfl, pr, sr⟩
    have vx : IsVal x := hv x (List.mem_of_getElem? hx)
    have hrow : ∀ y ∈ row, IsVal y := fun y hy => hv y (List.mem_of_mem_take (pr.mem_iff.mp hy))
    walk_at "es"
    refine e_iL ?_
    walk_at "es"
    refine ⟨by simp, ?_⟩
    refine p_addL (by simp; omega) ?_
    refine ⟨_, rfl, ?_⟩
    refine e_over (fun j ρ h'' => ∃ v6, ρ = [some (.scr ns), some (.ref 0), some (.int m), some (.lst vs), some (.lst row), some x, v6, none]) ⟨_, rfl⟩ ?_ ?_
    · rintro j y ρ h'' hy ⟨v6', rfl⟩
      have vy : IsVal y := hv3 y (List.mem_of_getElem? hy)
      walk_at "es"
      refine before_ok vx vy ?_
      walk_at "es"
      refine ahead_ok vx vy ?_
      walk_at "es"
      refine says_ok ?_
      rw [beq_self_eq_true]
      walk_at "es"
      refine before_ok vy vx ?_
      walk_at "es"
      refine ahead_ok vy vx ?_
      walk_at "es"
      refine says_ok ?_
      rw [beq_self_eq_true]
      walk_at "es"
      exact ⟨_, rfl⟩
    · rintro ρ h'' ⟨v6', rfl⟩
      walk_at "es"
      have hrl : row.length ≤ 1000 := by
        have := pr.length_eq
        rw [List.length_take] at this; omega
      refine putin_ok hrl vx hrow ?_
      walk_at "es"
      refine ⟨ins x row, _, _, rfl, ?_, ins_sorted vx hrow sr⟩
      rw [take_succ' hx]
      exact (ins_perm x row).trans ((pr.cons x).trans (List.perm_append_singleton x _).symm)
  rintro ρ h4 ⟨row, v5, v6, rfl, pr, sr⟩
  rw [List.take_length] at pr
  walk_at "es"
  refine e_iL ?_
  walk_at "es"
  refine ⟨vs, rfl, by show vs.length ≤ _; omega, ?_⟩
  refine e_over2 (fun i acc h' => acc = ((vs.take i).filterMap iI).map M.int) (by simp) ?_ ?_
  · rintro i x acc h' hx rfl
    walk_at "es"
    rw [take_succ' hx]
    rcases hv x (List.mem_of_getElem? hx) with ⟨j, rfl⟩ | ⟨z, rfl, _⟩
    · refine isnum_i ?_
      walk_at "es"
      simp [iI]
    · refine isnum_s ?_
      walk_at "es"
      simp [iI]
  rintro acc h5 rfl
  rw [List.take_length]
  walk_at "es"
  refine p_sortI (Nat.lt_of_le_of_lt (List.length_filterMap_le _ _) (by show vs.length < 64; omega)) ?_
  walk_at "es"
  refine e_iL ?_
  walk_at "es"
  refine ⟨vs, rfl, by show vs.length ≤ _; omega, ?_⟩
  refine e_over2 (fun i acc h' => acc = ((vs.take i).filterMap iS').map M.str) (by simp) ?_ ?_
  · rintro i x acc h' hx rfl
    walk_at "es"
    rw [take_succ' hx]
    rcases hv x (List.mem_of_getElem? hx) with ⟨j, rfl⟩ | ⟨z, rfl, _⟩
    · refine isnum_i ?_
      walk_at "es"
      simp [iS']
    · refine isnum_s ?_
      walk_at "es"
      simp [iS']
  rintro acc h6 rfl
  rw [List.take_length]
  walk_at "es"
  refine p_sortS (Nat.lt_of_le_of_lt (List.length_filterMap_le _ _) (by show vs.length < 64; omega)) ?_
  walk_at "es"
  have e := rows_same hv pr sr
  refine p_addL ?_ ?_
  · have := congrArg List.length e
    have h2 := pr.length_eq
    rw [List.length_append] at this
    show _ + _ ≤ 16777216
    have h3 : ((sortI (vs.filterMap iI)).map M.int).length + ((sortS (vs.filterMap iS')).map M.str).length = row.length := this
    calc _ = row.length := h3
      _ = vs.length := h2
      _ ≤ 16777216 := by omega
  · rw [e]
    refine p_eqSelf (fun x hx => hv x (pr.mem_iff.mp hx)) ?_
    walk_at "es"
    rfl
end K02
set_option Elab.async false
set_option linter.all false
set_option maxRecDepth 100000
set_option maxHeartbeats 8000000
namespace K02
open PySem L2
section
variable {P : Program} {w : World} {K : PySem.W.Frag} {mg : Str → Option Value} {base : Heap} {t : Adr}
theorem ok_law0 (T : Txt K mg t) : FnOk P w K mg base CX0 4 t.f_law t.d_law ["_law_script"] (spLaw K) := (ok_law T).imp fun vs H Q E q => spLaw_spM law_true q
end
theorem txt_mk {K : PySem.W.Frag} {h : Heap} {mg : Str → Option Value} {f0 f1 f2 f3 f4 f5 f6 f7 f8 f9 f10 : Addr} (X : K.In h) (G : h.Ns mainGlobals mg)
    {od0 an0 od1 an1 od2 an2 od3 an3 od4 an4 od5 an5 od6 an6 od7 an7 od8 an8 od9 an9 od10 an10 : Option Addr} {sl0 sl1 sl2 sl3 sl4 sl5 sl6 sl7 sl8 sl9 sl10 : Array (Option Value)} {oc0 kV0 dc0 pm0 cd0 ct0 oc1 kV1 dc1 pm1 cd1 ct1 oc2 kV2 dc2 pm2 cd2 ct2 oc3 kV3 dc3 pm3 cd3 ct3 oc4 kV4 dc4 pm4 cd4 ct4 oc5 kV5 dc5 pm5 cd5 ct5 oc6 kV6 dc6 pm6 cd6 ct6 oc7 kV7 dc7 pm7 cd7 ct7 oc8 kV8 dc8 pm8 cd8 ct8 oc9 kV9 dc9 pm9 cd9 ct9 oc10 kV10 dc10 pm10 cd10 ct10 : Value}
    (a0 : PySem.W.nsIn K mainGlobals "same_sort" = some (some (.ref f0))) (l0 : K.lookup f0 = some ⟨oc0, od0, .func (PySem.W.fnOf "same_sort" "same_sort" (defArgs s_same_sort) (defBody s_same_sort) (defScope s_same_sort) .none kV0 dc0 pm0 an0 cd0 ct0), sl0⟩) (c0 : PySem.W.codeIn K cd0 "same_sort" = true) (k0 : PySem.W.keepIn K (.ref f0) = true)
    (a1 : PySem.W.nsIn K mainGlobals "before" = some (some (.ref f1))) (l1 : K.lookup f1 = some ⟨oc1, od1, .func (PySem.W.fnOf "before" "before" (defArgs s_before) (defBody s_before) (defScope s_before) .none kV1 dc1 pm1 an1 cd1 ct1), sl1⟩) (c1 : PySem.W.codeIn K cd1 "before" = true) (k1 : PySem.W.keepIn K (.ref f1) = true)
    (a2 : PySem.W.nsIn K mainGlobals "_law_hand" = some (some (.ref f2))) (l2 : K.lookup f2 = some ⟨oc2, od2, .func (PySem.W.fnOf "_law_hand" "_law_hand" (defArgs s__law_hand) (defBody s__law_hand) (defScope s__law_hand) .none kV2 dc2 pm2 an2 cd2 ct2), sl2⟩) (c2 : PySem.W.codeIn K cd2 "_law_hand" = true) (k2 : PySem.W.keepIn K (.ref f2) = true)
    (a3 : PySem.W.nsIn K mainGlobals "_law_draw" = some (some (.ref f3))) (l3 : K.lookup f3 = some ⟨oc3, od3, .func (PySem.W.fnOf "_law_draw" "_law_draw" (defArgs s__law_draw) (defBody s__law_draw) (defScope s__law_draw) .none kV3 dc3 pm3 an3 cd3 ct3), sl3⟩) (c3 : PySem.W.codeIn K cd3 "_law_draw" = true) (k3 : PySem.W.keepIn K (.ref f3) = true)
    (a4 : PySem.W.nsIn K mainGlobals "_law_word" = some (some (.ref f4))) (l4 : K.lookup f4 = some ⟨oc4, od4, .func (PySem.W.fnOf "_law_word" "_law_word" (defArgs s__law_word) (defBody s__law_word) (defScope s__law_word) .none kV4 dc4 pm4 an4 cd4 ct4), sl4⟩) (c4 : PySem.W.codeIn K cd4 "_law_word" = true) (k4 : PySem.W.keepIn K (.ref f4) = true)
    (a5 : PySem.W.nsIn K mainGlobals "_law_value" = some (some (.ref f5))) (l5 : K.lookup f5 = some ⟨oc5, od5, .func (PySem.W.fnOf "_law_value" "_law_value" (defArgs s__law_value) (defBody s__law_value) (defScope s__law_value) .none kV5 dc5 pm5 an5 cd5 ct5), sl5⟩) (c5 : PySem.W.codeIn K cd5 "_law_value" = true) (k5 : PySem.W.keepIn K (.ref f5) = true)
    (a6 : PySem.W.nsIn K mainGlobals "_law_is_number" = some (some (.ref f6))) (l6 : K.lookup f6 = some ⟨oc6, od6, .func (PySem.W.fnOf "_law_is_number" "_law_is_number" (defArgs s__law_is_number) (defBody s__law_is_number) (defScope s__law_is_number) .none kV6 dc6 pm6 an6 cd6 ct6), sl6⟩) (c6 : PySem.W.codeIn K cd6 "_law_is_number" = true) (k6 : PySem.W.keepIn K (.ref f6) = true)
    (a7 : PySem.W.nsIn K mainGlobals "_law_ahead" = some (some (.ref f7))) (l7 : K.lookup f7 = some ⟨oc7, od7, .func (PySem.W.fnOf "_law_ahead" "_law_ahead" (defArgs s__law_ahead) (defBody s__law_ahead) (defScope s__law_ahead) .none kV7 dc7 pm7 an7 cd7 ct7), sl7⟩) (c7 : PySem.W.codeIn K cd7 "_law_ahead" = true) (k7 : PySem.W.keepIn K (.ref f7) = true)
    (a8 : PySem.W.nsIn K mainGlobals "_law_put_in" = some (some (.ref f8))) (l8 : K.lookup f8 = some ⟨oc8, od8, .func (PySem.W.fnOf "_law_put_in" "_law_put_in" (defArgs s__law_put_in) (defBody s__law_put_in) (defScope s__law_put_in) .none kV8 dc8 pm8 an8 cd8 ct8), sl8⟩) (c8 : PySem.W.codeIn K cd8 "_law_put_in" = true) (k8 : PySem.W.keepIn K (.ref f8) = true)
    (a9 : PySem.W.nsIn K mainGlobals "_law_says" = some (some (.ref f9))) (l9 : K.lookup f9 = some ⟨oc9, od9, .func (PySem.W.fnOf "_law_says" "_law_says" (defArgs s__law_says) (defBody s__law_says) (defScope s__law_says) .none kV9 dc9 pm9 an9 cd9 ct9), sl9⟩) (c9 : PySem.W.codeIn K cd9 "_law_says" = true) (k9 : PySem.W.keepIn K (.ref f9) = true)
    (a10 : PySem.W.nsIn K mainGlobals "law" = some (some (.ref f10))) (l10 : K.lookup f10 = some ⟨oc10, od10, .func (PySem.W.fnOf "law" "law" (defArgs s_law) (defBody s_law) (defScope s_law) .none kV10 dc10 pm10 an10 cd10 ct10), sl10⟩) (c10 : PySem.W.codeIn K cd10 "law" = true) (k10 : PySem.W.keepIn K (.ref f10) = true)
    (z_abs : PySem.W.nsIn K mainGlobals "abs" = some none)
    (z_bool : PySem.W.nsIn K mainGlobals "bool" = some none)
    (z_int : PySem.W.nsIn K mainGlobals "int" = some none)
    (z_isinstance : PySem.W.nsIn K mainGlobals "isinstance" = some none)
    (z_len : PySem.W.nsIn K mainGlobals "len" = some none)
    (z_ord : PySem.W.nsIn K mainGlobals "ord" = some none)
    (z_range : PySem.W.nsIn K mainGlobals "range" = some none)
    (z_sorted : PySem.W.nsIn K mainGlobals "sorted" = some none)
    (z_str : PySem.W.nsIn K mainGlobals "str" = some none)
    (z_zip : PySem.W.nsIn K mainGlobals "zip" = some none)
    : ∃ t, Txt K mg t ∧ t.f_law = f10 ∧ t.d_law = PySem.W.fnOf "law" "law" (defArgs s_law) (defBody s_law) (defScope s_law) .none kV10 dc10 pm10 an10 cd10 ct10 := by
  have F0 := fun_mk (st := s_same_sort) l0 c0 k0
  have b0 := F0.binds (ps := ["one", "other"]) fun _ _ _ _ _ _ us hl => match us, hl with | [_, _], _ => rfl
  have F1 := fun_mk (st := s_before) l1 c1 k1
  have b1 := F1.binds (ps := ["one", "other"]) fun _ _ _ _ _ _ us hl => match us, hl with | [_, _], _ => rfl
  have F2 := fun_mk (st := s__law_hand) l2 c2 k2
  have b2 := F2.binds (ps := ["_law_script"]) fun _ _ _ _ _ _ us hl => match us, hl with | [_], _ => rfl
  have F3 := fun_mk (st := s__law_draw) l3 c3 k3
  have b3 := F3.binds (ps := ["_law_hand_here", "_law_many"]) fun _ _ _ _ _ _ us hl => match us, hl with | [_, _], _ => rfl
  have F4 := fun_mk (st := s__law_word) l4 c4 k4
  have b4 := F4.binds (ps := ["_law_hand_here"]) fun _ _ _ _ _ _ us hl => match us, hl with | [_], _ => rfl
  have F5 := fun_mk (st := s__law_value) l5 c5 k5
  have b5 := F5.binds (ps := ["_law_hand_here"]) fun _ _ _ _ _ _ us hl => match us, hl with | [_], _ => rfl
  have F6 := fun_mk (st := s__law_is_number) l6 c6 k6
  have b6 := F6.binds (ps := ["_law_thing"]) fun _ _ _ _ _ _ us hl => match us, hl with | [_], _ => rfl
  have F7 := fun_mk (st := s__law_ahead) l7 c7 k7
  have b7 := F7.binds (ps := ["_law_one", "_law_other"]) fun _ _ _ _ _ _ us hl => match us, hl with | [_, _], _ => rfl
  have F8 := fun_mk (st := s__law_put_in) l8 c8 k8
  have b8 := F8.binds (ps := ["_law_row", "_law_value_here"]) fun _ _ _ _ _ _ us hl => match us, hl with | [_, _], _ => rfl
  have F9 := fun_mk (st := s__law_says) l9 c9 k9
  have b9 := F9.binds (ps := ["_law_found", "_law_due"]) fun _ _ _ _ _ _ us hl => match us, hl with | [_, _], _ => rfl
  have F10 := fun_mk (st := s_law) l10 c10 k10
  have b10 := F10.binds (ps := ["_law_script"]) fun _ _ _ _ _ _ us hl => match us, hl with | [_], _ => rfl
  exact ⟨⟨f0, _, f1, _, f2, _, f3, _, f4, _, f5, _, f6, _, f7, _, f8, _, f9, _, f10, _⟩, ⟨F0, b0, PySem.W.mg_of X G a0, F1, b1, PySem.W.mg_of X G a1, F2, b2, PySem.W.mg_of X G a2, F3, b3, PySem.W.mg_of X G a3, F4, b4, PySem.W.mg_of X G a4, F5, b5, PySem.W.mg_of X G a5, F6, b6, PySem.W.mg_of X G a6, F7, b7, PySem.W.mg_of X G a7, F8, b8, PySem.W.mg_of X G a8, F9, b9, PySem.W.mg_of X G a9, F10, b10, PySem.W.mg_of X G a10, PySem.W.mg_none_of X G z_abs, PySem.W.mg_none_of X G z_bool, PySem.W.mg_none_of X G z_int, PySem.W.mg_none_of X G z_isinstance, PySem.W.mg_none_of X G z_len, PySem.W.mg_none_of X G z_ord, PySem.W.mg_none_of X G z_range, PySem.W.mg_none_of X G z_sorted, PySem.W.mg_none_of X G z_str, PySem.W.mg_none_of X G z_zip⟩, rfl, rfl⟩
end K02
open PySem PySem.W PyProof.Rows
set_option maxRecDepth 100000 in
set_option maxHeartbeats 0 in
theorem PySem.Challenge.cw_webstore_k02_values_in_order_holds : PySem.Challenge.rw_webstore_k02_values_in_order.Holds := by
  w_on; o_law; k_head; (case hw => w_witness2)
  k_fill
  refine L2.walk_ofK (l := PySem.Challenge.rw_webstore_k02_values_in_order) (n := 63) (k := 4) (x := "_law_script") (CX := L2.CX0) (sp := L2.spLaw) rfl (by decide) rfl ⟨rfl, by decide, by decide⟩ (fun w h Y => PySem.W.kIn_of Y) ?F ?S ?C
  case F =>
    intro w mg fa h KX G hmg
    have Z : ∃ f kV dc pm an cd ct t, K02.Txt (L2.KOf KX) mg t ∧ t.f_law = f ∧ t.d_law = PySem.W.fnOf "law" "law" (L2.defArgs K02.s_law) (L2.defBody K02.s_law) (L2.defScope K02.s_law) .none kV dc pm an cd ct := by
      dsimp only [L2.KOf]
      refine' ⟨_, _, _, _, _, _, _, K02.txt_mk KX G ?a0 ?l0 ?c0 ?k0 ?a1 ?l1 ?c1 ?k1 ?a2 ?l2 ?c2 ?k2 ?a3 ?l3 ?c3 ?k3 ?a4 ?l4 ?c4 ?k4 ?a5 ?l5 ?c5 ?k5 ?a6 ?l6 ?c6 ?k6 ?a7 ?l7 ?c7 ?k7 ?a8 ?l8 ?c8 ?k8 ?a9 ?l9 ?c9 ?k9 ?a10 ?l10 ?c10 ?k10 ?z_abs ?z_bool ?z_int ?z_isinstance ?z_len ?z_ord ?z_range ?z_sorted ?z_str ?z_zip⟩
      (case a0 => k_is)
      (case l0 => k_is)
      (case c0 => k_is)
      (case k0 => k_is)
      (case a1 => k_is)
      (case l1 => k_is)
      (case c1 => k_is)
      (case k1 => k_is)
      (case a2 => k_is)
      (case l2 => k_is)
      (case c2 => k_is)
      (case k2 => k_is)
      (case a3 => k_is)
      (case l3 => k_is)
      (case c3 => k_is)
      (case k3 => k_is)
      (case a4 => k_is)
      (case l4 => k_is)
      (case c4 => k_is)
      (case k4 => k_is)
      (case a5 => k_is)
      (case l5 => k_is)
      (case c5 => k_is)
      (case k5 => k_is)
      (case a6 => k_is)
      (case l6 => k_is)
      (case c6 => k_is)
      (case k6 => k_is)
      (case a7 => k_is)
      (case l7 => k_is)
      (case c7 => k_is)
      (case k7 => k_is)
      (case a8 => k_is)
      (case l8 => k_is)
      (case c8 => k_is)
      (case k8 => k_is)
      (case a9 => k_is)
      (case l9 => k_is)
      (case c9 => k_is)
      (case k9 => k_is)
      (case a10 => k_is)
      (case l10 => k_is)
      (case c10 => k_is)
      (case k10 => k_is)
      (case z_abs => k_is)
      (case z_bool => k_is)
      (case z_int => k_is)
      (case z_isinstance => k_is)
      (case z_len => k_is)
      (case z_ord => k_is)
      (case z_range => k_is)
      (case z_sorted => k_is)
      (case z_str => k_is)
      (case z_zip => k_is)
    obtain ⟨f, kV, dc, pm, an, cd, ct, t, hT, hf, hd⟩ := Z
    have e := hmg.symm.trans hT.m_law
    rw [hf] at e
    cases e
    subst hf
    refine ⟨t.d_law, fun s u => by rw [hd]; exact .of_eq rfl, fun base kb nb => (K02.ok_law0 hT).mono (by decide)⟩
  case S => exact fun K H a ns hl hO hS => L2.spLaw_of hl hS
  case C => exact fun _ _ _ _ z => z
